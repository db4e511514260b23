/- shard.handOver: what stays and what goes. -/
import Derived.Test.YtignemioillaiaaGreatG10
namespace Go.Proofs.YtignemioillaiaaGreat
set_option maxHeartbeats 8000000
set_option maxRecDepth 100000
section
open Go.RowKit Go.Lib
theorem ac0 {α:Type} {w:World} {size:Nat} {cf:α→List Value} {t:TypeId} {a1 a2:Option Addr} {n1 n2 c1 c2:Nat} {x1 x2:List α} {b1 b2:Nat} {e:TypeId} (h1:w.ownsRow b1 e size (.slice a1 n1 c1) x1.length (x1.map cf).flatten) (h2:w.ownsRow b2 e size (.slice a2 n2 c2) x2.length (x2.map cf).flatten) (hf:∀ y,(cf y).length=size) :
 RD (w.alloc (.cells #[.slice a1 n1 c1,.slice a2 n2 c2] t)) w.heap.size size cf [⟨a1,n1,c1⟩,⟨a2,n2,c2⟩] [x1,x2]:=by
 have key:∀ {a:Option Addr} {n c:Nat} {x:List α} {b:Nat},w.ownsRow b e size (.slice a n c) x.length (x.map cf).flatten→bQ (w.alloc (.cells #[.slice a1 n1 c1,.slice a2 n2 c2] t)).heap.size (w.alloc (.cells #[.slice a1 n1 c1,.slice a2 n2 c2] t)) ⟨a,n,c⟩ size (x.map cf)∧(a=none→c=0):=by
  intro a n c x b h;obtain ⟨a',n',c',e',hin,hnil⟩:=qj (w:=w.alloc (.cells #[.slice a1 n1 c1,.slice a2 n2 c2] t)) (xs:=x.map cf) (by rw [List.length_map];exact ay h (aj w _)) (by intro y hy;obtain ⟨r,_,rfl⟩:=List.mem_map.1 hy;exact hf r);cases e'
  exact ⟨hin,hnil⟩
 refine ⟨fun i s hs=>?_,by simp,rfl,fun i s x hs hx=>?_⟩
 ·rw [ah (heap_alloc_new w _)]
  match i,hs with
  | 0,hs=>simp at hs;subst hs;rfl
  | 1,hs=>simp at hs;subst hs;rfl
 ·match i,hs,hx with
  | 0,hs,hx=>simp at hs hx;subst hs;subst hx;exact key h1
  | 1,hs,hx=>simp at hs hx;subst hs;subst hx;exact key h2
theorem Jr {α:Type} {w:World} {base base':Nat} {e:TypeId} {k:Nat} {cf:α→List Value} {v1 v2 v3:Value} {x1 x2 x3:List α} (h:Own3 w base e k cf v1 v2 v3 x1 x2 x3) (hb:base'≤base):Own3 w base' e k cf v1 v2 v3 x1 x2 x3:=⟨dE h.o1 hb,dE h.o2 hb,dE h.o3 hb,h.a12,h.a23,h.a31⟩
theorem FL {α:Type} {f:α→Int} (lo hi:Int) (l:List α):(sB f lo l++sA f lo hi l).length≤l.length:=by
 induction l with
 | nil=>simp [sB,sA]
 | cons a r ih =>
  simp only [sB,sA,List.length_append,List.filter_cons,List.length_cons] at ih ⊢;by_cases h1:f a<lo
  ·simp [h1];omega
  ·by_cases h2:hi<f a
   ·simp [h1,h2];omega
   ·simp [h1,h2];omega
theorem SB {α:Type} {w':World} {B B' size:Nat} {e:TypeId} {cf:α→List Value} {v:Value} {x1 x2:List α} (h:w'.ownsRow B' e size v [x1,x2].flatten.length ([x1,x2].flatten.map cf).flatten) (hb:B≤B'):w'.ownsRow B e size v (x1++x2).length ((x1++x2).map cf).flatten:=by
 have e1:[x1,x2].flatten=x1++x2:=by simp
 rw [e1] at h;exact dE h hb
structure ahy (w w':World) (base b gO R0 j:Nat) (g n bz ag au:Int) (vM vO vI vw Xj dN eY:Value) (rs ds qs:Sl) (xb xw xa:List Row) (D:List ak) (lq:List aF) (cur:List Value):Prop where
 cell:w'.heap[b]? = some (.cells (rW g n dN vM eY vO vI).toArray 31)
 oT:w'.ownsRow w.heap.size 128 2 dN (xb++xa).length ((xb++xa).map Row.cells).flatten
 oD:w'.ownsRow w.heap.size 57 7 eY ((sB (fun x:ak=>x.key) ag D)++(sA (fun x:ak=>x.key) ag au D)).length (((sB (fun x:ak=>x.key) ag D)++(sA (fun x:ak=>x.key) ag au D)).map ak.cells).flatten
 ers:rs.val=vw
 oS:w'.ownsRow w.heap.size 57 7 ds.val (sW (fun x:ak=>x.key) ag au D).length ((sW (fun x:ak=>x.key) ag au D).map ak.cells).flatten
 aD:gV eY ds.val
 oQ:w'.ownsRow base 52 7 qs.val (lq.length+1) ((lq++[aF.mk g j bz ag au rs ds xw (sW (fun x:ak=>x.key) ag au D)]).map aF.cells).flatten
 fQ:qs.val.ownBlock=Xj.ownBlock∨∀ k,qs.val.ownBlock=some k→w.heap.size≤k
 lane:w'.heap[gO]? = some (.cells ((cur.set (j*2+1) qs.val).set (j*2) (.int .u32 (IntKind.u32.wrap (bz+1)))).toArray 103)
 dX:av (fun k=>k=b∨k=gO∨k=R0∨Xj.ownBlock=some k) w w'
theorem ahz {c a0 a1 a2 a3:Code} (hc:Tryz.f180.body=some (a0.seq (a1.seq (a2.seq (a3.seq c))))) {u1 u2 u3 u9 jB jg jh ji jk jl u16 mW oz lJ nC mE mF mh jC jD jw j6 ig ik iq iw u32 jm jq jr jE jF jG jH jI jJ jK jL jM jN jO jP jQ jR jS jT jU jV jW jX jY kv ky kz kC kD kE kF u64 kG kH kg ko kI kJ kK kL kM kN kP kQ kR lK lL lN lQ lT lU lV lW lX lY lZ l7 l8 l9 mf mg mi:Value} (w:World) (base b gO R0 j:Nat) (g n bz ag au:Int) (vT vM vO vI:Value) (da:Option Addr) (dn dc:Nat) (ba:Option Addr) (bn bc:Nat) (wa:Option Addr) (wn wc:Nat) (aa:Option Addr) (an ac:Nat) (xb xw xa:List Row) (D:List ak) (lq:List aF) (cur:List Value) (eG:Option Addr) (eP eQ B0:Nat)
 (hC:w.heap[b]? = some (.cells #[.int .u8 g,.int .u8 n,vT,vM,.slice da dn dc,vO,vI] 31)) (hG:w.heap[gO]? = some (.cells cur.toArray 103)) (ho0:cur[j*2]? = some (.int .u32 bz)) (ho1:cur[j*2+1]? = some (.slice eG eP eQ)) (hR:w.heap[R0]? = some (.cells (rR g j bz ag au none 0 0 none 0 0).toArray 52))
 (hO3:Own3 w B0 128 2 Row.cells (.slice ba bn bc) (.slice wa wn wc) (.slice aa an ac) xb xw xa) (hD:w.ownsRow base 57 7 (.slice da dn dc) D.length (D.map ak.cells).flatten)
 (hq:w.ownsRow base 52 7 (.slice eG eP eQ) lq.length (lq.map aF.cells).flatten) (SA:Value.ownBlock (.slice eG eP eQ)≠some R0) (hnq:lq.length<1000000) (hnD:D.length<1000000) (hnx:(xb++xa).length<1000000) (hb:base≤w.heap.size) (Q:World→Prop)
 (hQ:∀ (w':World) (dN eY:Value) (rs ds qs:Sl),ahy w w' base b gO R0 j g n bz ag au vM vO vI (.slice wa wn wc) (.slice eG eP eQ) dN eY rs ds qs xb xw xa D lq cur→Q w') :
 c.wp Tryz.prog (bodyPost Tryz.prog Tryz.f180 fun e w'=>e=.returned (.tuple #[])∧Q w') { tmps:=(List.toArray (α:=Value) (.pointer (some ⟨b,0,none⟩)::u1::u2::u3::.pointer (some ⟨gO,j*2,none⟩)::.pointer (some ⟨R0,0,none⟩)::.slice ba bn bc::.slice wa wn wc::.slice aa an ac::u9::jB::jg::jh::ji::jk::jl::u16::mW::oz::lJ::nC::mE::mF::mh::jC::jD::jw::j6::ig::ik::iq::iw::u32::jm::jq::jr::jE::jF::jG::jH::jI::jJ::jK::jL::jM::jN::jO::jP::jQ::jR::jS::jT::jU::jV::jW::jX::jY::kv::ky::kz::kC::kD::kE::kF::u64::kG::kH::kg::ko::kI::kJ::kK::kL::kM::kN::kP::kQ::kR::lK::lL::lN::lQ::lT::lU::lV::lW::lX::lY::lZ::l7::l8::l9::mf::mg::mi::[])),defers:=[] } w:=by
 injection hc with k0;injection k0 with e0 k1;clear e0;injection k1 with e1 k2;clear e1;injection k2 with e2 k3;clear e2;injection k3 with e3 k4;clear e3;subst k4;have HC:=ae hC;have HG:=ae hG;have HR:=ae hR;have pE:=ae hO3;have HD:=ae hD;have HQ:=ae hq;have UX:=ae SA;have Xi:=ae hQ;have HX:=ae hnx;have hcb:=ah hC;have hne1:b≠R0:=by intro e;rw [e,hR] at hC;injection hC with h;injection h with _ h _;exact absurd h (by decide)
 have hne2:b≠gO:=by intro e;rw [e,hG] at hC;injection hC with h;injection h with _ h _;exact absurd h (by decide)
 have Ot:gO≠R0:=by intro e;rw [e,hR] at hG;injection hG with h;injection h with _ h _;exact absurd h (by decide)
 have ahA:b<w.heap.size:=(df hC);have ahB:R0<w.heap.size:=(df hR);have alH:gO<w.heap.size:=(df hG);clear hC hG hR hO3 hD hq SA hQ hnx hcb;go_upto_region 5 with (first
  | (go_at_call 91;go_must (refine (Ni _ w.heap.size 2 2 _ _ (ac0 pE.out.o1 pE.out.o3 Hw) rfl (by simpa using HX.out) (by simp)).mono ?_;rintro e w4 ⟨dN,rfl,Bl,hb4⟩;have fD:Hid (Below w.heap.size w w4):=ae (ai (aj w _) hb4);have Xk:=dR Bl;have SC:Hid (w4.ownsRow w.heap.size 128 2 dN (xb++xa).length ((xb++xa).map Row.cells).flatten):=(show _ from by with_unfolding_all exact SB Bl (by simp));have Db:Hid (w4.heap[b]? = some (.cells #[.int .u8 g,.int .u8 n,vT,vM,.slice da dn dc,vO,vI] 31)):=ae (af fD.out HC.out);have HR4:Hid (w4.heap[R0]? = some (.cells (rR g j bz ag au none 0 0 none 0 0).toArray 52)):=ae (af fD.out HR.out);clear Bl hb4))
  | (with_reducible show dJ 25 54 ..;go_must (refine cZ rfl _ _ _ rfl rfl b 2 rfl dN rfl (by kernel_rfl) Xk [.int .u8 g,.int .u8 n,vT,vM,.slice da dn dc,vO,vI] 31 Db.out rfl [.int .u8 g,.int .u8 n,dN,vM,.slice da dn dc,vO,vI] rfl ?_;intro w5 hw ho;have KZ:Hid (w5.heap[b]? = some (.cells #[.int .u8 g,.int .u8 n,dN,vM,.slice da dn dc,vO,vI] 31)):=ae hw;have ru:Hid (Only b w4 w5):=ae ho;have zU:Hid (w5.heap[R0]? = some (.cells (rR g j bz ag au none 0 0 none 0 0).toArray 52)):=ae ((ho.block _ (Ne.symm hne1)).trans HR4.out);clear hw ho))
  | (with_reducible show dJ 25 55 ..;go_must (refine oZ R0 5 (.slice wa wn wc) (rR g j bz ag au none 0 0 none 0 0) 52 zU.out (rR g j bz ag au wa wn wc none 0 0) ?_;intro w6 hw ho;have U1:Hid (w6.heap[R0]? = some (.cells (rR g j bz ag au wa wn wc none 0 0).toArray 52)):=ae hw;have Nf:Hid (Only R0 w5 w6):=ae ho;have U2:Hid (w6.heap[b]? = some (.cells #[.int .u8 g,.int .u8 n,dN,vM,.slice da dn dc,vO,vI] 31)):=ae ((ho.block _ hne1).trans KZ.out);clear hw ho)))
 have A6:Hid (av (fun k=>k=b∨k=gO∨k=R0∨Value.ownBlock (.slice eG eP eQ)=some k) w w6):=(av.later fD.out).trans ((av.only ru.out (.inl rfl)).trans (av.only Nf.out (.inr (.inr (.inl rfl)))));have c6:av (fun k=>k=b∨k=R0) w w6:=(av.later fD.out).trans ((av.only ru.out (.inl rfl)).trans (av.only Nf.out (.inr rfl)));have HD6:Hid (w6.ownsRow base 57 7 (.slice da dn dc) D.length (D.map ak.cells).flatten):=dB HD.out c6 (fun k hk e=>by rcases e with e | e;exact eF HD.out HC.out (by decide) k hk e;exact eF HD.out HR.out (by decide) k hk e);have HQ6:Hid (w6.ownsRow base 52 7 (.slice eG eP eQ) lq.length (lq.map aF.cells).flatten):=dB HQ.out c6 (fun k hk e=>by rcases e with e | e;exact eF HQ.out HC.out (by decide) k hk e;exact UX.out (by rw [hk,e]));have GJ:Hid (w6.heap[gO]? = some (.cells cur.toArray 103)):=nQ HG.out c6 (fun e=>by rcases e with e | e;exact hne2 e.symm;exact Ot e);have Pm:Hid (w6.ownsRow w.heap.size 128 2 dN (xb++xa).length ((xb++xa).map Row.cells).flatten):=dB SC.out ((av.only (A:=fun k=>k=b∨k=R0) ru.out (.inl rfl)).trans (av.only Nf.out (.inr rfl))) (fun k hk e=>by rcases e with e | e;exact eF SC.out Db.out (by decide) k hk e;exact eF SC.out HR4.out (by decide) k hk e);have V5:w.heap.size≤w6.heap.size:=c6.size;clear c6;have HDI:Hid (bQ w6.heap.size w6 ⟨da,dn,dc⟩ 7 (D.map ak.cells)):=by
  obtain ⟨a,m,c,e,hm,hin⟩:=pI HD6.out (fun y=>rfl);cases e;exact hin
 have MK5:Hid (∀ w',Below w6.heap.size w6 w'→(Below w6.heap.size w6 w'∧w'.cell? ⟨b,4,none⟩=some (.slice da dn dc)∧w'.cell? ⟨R0,3,none⟩=some (.int .u64 ag)∧w'.cell? ⟨R0,4,none⟩=some (.int .u64 au))):=fun w' hb=>⟨hb,blk hb U2.out 4,blk hb U1.out 3,blk hb U1.out 4⟩
 go_region_held3 (fun w'=>Below w6.heap.size w6 w'∧w'.cell? ⟨b,4,none⟩=some (.slice da dn dc)∧w'.cell? ⟨R0,3,none⟩=some (.int .u64 ag)∧w'.cell? ⟨R0,4,none⟩=some (.int .u64 au)) (first | exact MK5.out _ (Below.refl _ _).drew | exact MK5.out _ (fB (by assumption) (by assumption)) | exact MK5.out _ (fI (by assumption))) (first | (go_at_call 92;refine (Pk da dn dc D ag au _ (HDI.out.later (And.left (by assumption))) hnD).mono ?_;rintro e w7 ⟨vb,vw,va,rfl,yX,alm⟩;have Bp:Hid (Own3 w7 w6.heap.size 57 7 ak.cells vb vw va (sB (fun x:ak=>x.key) ag D) (sW (fun x:ak=>x.key) ag au D) (sA (fun x:ak=>x.key) ag au D)):=ae (Jr yX (by first | exact Nat.le_refl _ | exact Below.size (And.left (by assumption))))))
 have uJ:Hid (Below w6.heap.size w6 w7):=And.left (by assumption);obtain ⟨pa,pn,pc,rfl⟩:=aB Bp.out.o1;obtain ⟨ea,en,ec,rfl⟩:=aB Bp.out.o2;obtain ⟨oa,on,oc,rfl⟩:=aB Bp.out.o3;have HX7:Hid (((sB (fun x:ak=>x.key) ag D)++(sA (fun x:ak=>x.key) ag au D)).length<1000000):=by
  show _<_;have:=FL (f:=(fun x:ak=>x.key)) ag au D;omega
 have HC7:Hid (w7.heap[b]? = some (.cells #[.int .u8 g,.int .u8 n,dN,vM,.slice da dn dc,vO,vI] 31)):=af uJ.out U2.out;have Np:Hid (w7.heap[R0]? = some (.cells (rR g j bz ag au wa wn wc none 0 0).toArray 52)):=af uJ.out U1.out;go_upto_region 7 with (first
  | (go_at_call 94;go_must (refine (Nj _ w7.heap.size 2 2 _ _ (ac0 Bp.out.o1 Bp.out.o3 MU) rfl (by simpa using HX7.out) (by simp)).mono ?_;rintro e w8 ⟨eY,rfl,ho8,Xl⟩;have HB8:Hid (Below w7.heap.size w7 w8):=ae (ai (aj w7 _) Xl);have Xm:=dR ho8;have HD8:Hid (w8.ownsRow w7.heap.size 57 7 eY ((sB (fun x:ak=>x.key) ag D)++(sA (fun x:ak=>x.key) ag au D)).length (((sB (fun x:ak=>x.key) ag D)++(sA (fun x:ak=>x.key) ag au D)).map ak.cells).flatten):=(show _ from by with_unfolding_all exact SB ho8 (by simp));have HC8:Hid (w8.heap[b]? = some (.cells #[.int .u8 g,.int .u8 n,dN,vM,.slice da dn dc,vO,vI] 31)):=ae (af HB8.out HC7.out);have SE:Hid (w8.heap[R0]? = some (.cells (rR g j bz ag au wa wn wc none 0 0).toArray 52)):=ae (af HB8.out Np.out);clear ho8 Xl))
  | (with_reducible show dJ 27 76 ..;go_must (refine cZ rfl _ _ _ rfl rfl b 4 rfl eY rfl (by kernel_rfl) Xm [.int .u8 g,.int .u8 n,dN,vM,.slice da dn dc,vO,vI] 31 HC8.out rfl (rW g n dN vM eY vO vI) rfl ?_;intro w9 hw ho;have HC9:Hid (w9.heap[b]? = some (.cells (rW g n dN vM eY vO vI).toArray 31)):=ae hw;have fo:Hid (Only b w8 w9):=ae ho;have Xn:Hid (w9.heap[R0]? = some (.cells (rR g j bz ag au wa wn wc none 0 0).toArray 52)):=ae ((ho.block _ (Ne.symm hne1)).trans SE.out);clear hw ho))
  | (with_reducible show dJ 27 77 ..;go_must (refine oZ R0 6 (.slice ea en ec) (rR g j bz ag au wa wn wc none 0 0) 52 Xn.out (rR g j bz ag au wa wn wc ea en ec) ?_;intro FK hw ho;have ahC:Hid (FK.heap[R0]? = some (.cells (rR g j bz ag au wa wn wc ea en ec).toArray 52)):=ae hw;have ac6:Hid (Only R0 w9 FK):=ae ho;have ac7:Hid (FK.heap[b]? = some (.cells (rW g n dN vM eY vO vI).toArray 31)):=ae ((ho.block _ hne1).trans HC9.out);clear hw ho)))
 have c10:av (fun k=>k=b∨k=R0) w6 FK:=(av.later (ai uJ.out HB8.out)).trans ((av.only fo.out (.inl rfl)).trans (av.only ac6.out (.inr rfl)));have Zq:Hid (FK.ownsRow base 52 7 (.slice eG eP eQ) lq.length (lq.map aF.cells).flatten):=dB HQ6.out c10 (fun k hk e=>by rcases e with e | e;exact eF HQ6.out U2.out (by decide) k hk e;exact UX.out (by rw [hk,e]));have ac8:Hid (FK.heap[gO]? = some (.cells cur.toArray 103)):=nQ GJ.out c10 (fun e=>by rcases e with e | e;exact hne2 e.symm;exact Ot e);refine ahv rfl FK base gO R0 j lq.length bz cur _ eG eP eQ g j bz ag au wa wn wc ea en ec ac8.out ho0 ho1 ahC.out Zq.out UX.out hnq (Nat.le_trans hb (Nat.le_trans V5 c10.size)) Q ?_ (by assumption);intro w' sa sn sc oq fq lane dX;have hTe:FK.ownsRow w.heap.size 128 2 dN (xb++xa).length ((xb++xa).map Row.cells).flatten:=dB Pm.out c10 (fun k hk e=>by rcases e with e | e;exact eF Pm.out U2.out (by decide) k hk e;exact eF Pm.out U1.out (by decide) k hk e);have c8:av (fun k=>k=b∨k=R0) w8 FK:=(av.only fo.out (.inl rfl)).trans (av.only ac6.out (.inr rfl));have hDe:FK.ownsRow w7.heap.size 57 7 eY ((sB (fun x:ak=>x.key) ag D)++(sA (fun x:ak=>x.key) ag au D)).length (((sB (fun x:ak=>x.key) ag D)++(sA (fun x:ak=>x.key) ag au D)).map ak.cells).flatten:=dB HD8.out c8 (fun k hk e=>by rcases e with e | e;exact eF HD8.out HC8.out (by decide) k hk e;exact eF HD8.out SE.out (by decide) k hk e);have hS8:=ay Bp.out.o2 HB8.out;have yY:FK.ownsRow w6.heap.size 57 7 (.slice ea en ec) (sW (fun x:ak=>x.key) ag au D).length ((sW (fun x:ak=>x.key) ag au D).map ak.cells).flatten:=dB hS8 c8 (fun k hk e=>by rcases e with e | e;exact eF hS8 HC8.out (by decide) k hk e;exact eF hS8 SE.out (by decide) k hk e);have no:∀ {e:TypeId} {s m B:Nat} {v:Value} {zs:List Value},FK.ownsRow B e s v m zs→e≠103→e≠52→w'.ownsRow B e s v m zs:=fun h h1 h2=>dB h dX (fun k hk e=>by rcases e with e | e;exact eF h ac8.out h1 k hk e;exact rJ Zq.out h (Ne.symm h2) |>.elim (fun x=>by rw [x] at e;cases e) (fun x=>x (by rw [hk,e])))
 refine Xi.out w' dN eY ⟨wa,wn,wc⟩ ⟨ea,en,ec⟩ ⟨sa,sn,sc⟩ ⟨nQ ac7.out dX ?_,no hTe (by decide) (by decide),dE (no hDe (by decide) (by decide)) (Nat.le_trans V5 uJ.out.size),rfl,dE (no yY (by decide) (by decide)) V5,?_,?_,?_,lane,?_⟩
 ·intro e
  rcases e with e | e
  ·exact hne2 e
  ·exact eF Zq.out ac7.out (by decide) b e rfl
 ·exact (gV.lt (B:=w7.heap.size) (fun k hk=>(Bp.out.o2.lt k hk).2) (fun k hk=>(HD8.out.lt k hk).1)).symm
 ·rw [List.map_append,List.flatten_append]
  exact oq
 ·exact fq.imp id fun h k hk=>Nat.le_trans (Nat.le_trans V5 c10.size) (h k hk)
 ·refine (A6.out.trans (c10.mono (fun k _ e=>?_))).trans (dX.mono (fun k _ e=>?_))
  ·rcases e with e | e
   ·exact .inl e
   ·exact .inr (.inr (.inl e))
  ·rcases e with e | e
   ·exact .inr (.inl e)
   ·exact .inr (.inr (.inr e))
theorem kZ {α:Type} {w:World} {base:Nat} {e:TypeId} {k:Nat} {cf:α→List Value} {v:Value} {x:List α} {y:α} (h:w.ownsRow base e k v (x.length+1) ((x.map cf).flatten++cf y)):w.ownsRow base e k v (x++[y]).length ((x++[y]).map cf).flatten:=by simpa using h
def dz {α:Type} (f:α→Int) (lo hi:Int) (fl:Bool) (l:List α):List α:=l.filter fun x=>(decide (lo≤f x) && decide (f x≤hi)) == fl
theorem zh (a:Option Addr) (n c:Nat) (T:List Row) (lo hi:Int) (w:World) (h:bQ w.heap.size w ⟨a,n,c⟩ 2 (T.map Row.cells)) (hl:T.length<1000000) :
 Calls Tryz.prog 99 #[.slice a n c,.int .u64 lo,.int .u64 hi,.bool true] w fun e w'=>∃ v',e=.returned v'∧w'.ownsRow w.heap.size 128 2 v' (dz (fun x:Row=>x.key) lo hi true T).length ((dz (fun x:Row=>x.key) lo hi true T).map Row.cells).flatten∧Below w.heap.size w w':=by
 obtain ⟨i0,hi0,hz0,hz1,hz2⟩:=info_parts yK;have hlen:n=T.length:=by simpa using h.len
 have HI:=ae h;have HL:Hid (n=T.length):=hlen;have hnl:n<1000000:=by omega
 clear hlen h;go_enter Tryz.func99,Tryz.ntmps99
 go_wp2_with fail
 go_loopw [9,10] (fun b1 i wr=>∃ (k:Nat) (vb:Value),vb=b1∧k≤n∧i=.int .i64 k∧Hid (wr.ownsRow w.heap.size 128 2 vb (dz (fun x:Row=>x.key) lo hi true (T.take k)).length ((dz (fun x:Row=>x.key) lo hi true (T.take k)).map Row.cells).flatten)∧Hid (Below w.heap.size w wr)) (fun _ i _=>n - (intOf i).toNat)
 case atStart=>exact ⟨0,_,rfl,Nat.zero_le _,rfl,World.ownsRow_nil _ _ _ _,Below.refl _ _⟩
 case round =>
  obtain ⟨k,vb,rfl,hk,rfl,HO,bV⟩:=hrel;by_cases hlt:k<n
  ·have hdk:decide ((k:Int)<(n:Int))=true:=by simp;omega
   obtain ⟨x,hx⟩:∃ x,T[k]? = some x:=⟨T[k]'(by rw [← HL.out];exact hlt),by simp⟩;obtain ⟨b,off,ha,j4,hc⟩:=(HI.out.below bV.out (Nat.le_refl _)).el (i:=k) (x:=x.cells) (by simp [hx]);obtain rfl:a=some ⟨b,off,none⟩:=ha;have HX:Hid (T[k]? = some x):=hx;have HN:Hid ((dz (fun x:Row=>x.key) lo hi true (T.take k)).length<1000000):=Nat.lt_of_le_of_lt (pV _) hl;clear hx;obtain ⟨az,dU⟩:=x;have HC:Hid (∀ (j:Nat) (u:Value),[.int .u64 az,.int .u64 dU][j]? = some u→wr.cell? ⟨b,off+k*2+j,none⟩=some u):=hc;have hkc:wr.cell? ⟨b,off+k*2,none⟩=some (.int .u64 az):=hc 0 _ rfl;clear hc;have hi1:(0:Int)≤(k:Int):=by omega
   have hi2:(k:Int)<(n:Int):=by omega
   by_cases h1:lo≤az
   ·have hd1:decide (lo≤az)=true:=by simp [h1]
    by_cases h2:az≤hi
    ·have hd2:decide (az≤hi)=true:=by simp [h2]
     have HE:Hid ((dz (fun x:Row=>x.key) lo hi true (T.take (k+1)))=(dz (fun x:Row=>x.key) lo hi true (T.take k))++[(Row.mk az dU)]):=by
      show _=_;unfold dz;rw [fK _ HX.out];simp [h1,h2]
     go_wp2_with (first
      | (with_reducible show cB 39 128 ..;go_must (refine bB rfl _ _ rfl b (off+k*2) rfl 2 _ ve rfl (by kernel_rfl) [.int .u64 az,.int .u64 dU] rfl HC.out ?_))
      | (at_builtin;go_must (refine aZ _ rfl _ _ 25 rfl w.heap.size 128 i0 (.agg #[.int .u64 0,.int .u64 0]) 2 16 rE hi0 hz0 hz1 hz2 rfl (by decide) vb (dz (fun x:Row=>x.key) lo hi true (T.take k)).length ((dz (fun x:Row=>x.key) lo hi true (T.take k)).map Row.cells).flatten rfl (ay HO.out (aj wr _)) ⟨wr.heap.size,0,none⟩ 1 1 [.int .u64 az,.int .u64 dU] rfl rfl (cu rfl) (cz rfl) (by have:=HN.out;unfold maxLen;omega) (by have:=HN.out;omega) (by have:=bV.out.size;simp;omega) ?_;intro v9 w9 bJ gZ)))
     have o8:Hid (Below w.heap.size w w9):=dO (ai bV.out (aj wr _)) gZ (fun j hj=>(HO.out.lt j hj).1);have fo:Hid (w9.ownsRow w.heap.size 128 2 v9 (dz (fun x:Row=>x.key) lo hi true (T.take (k+1))).length ((dz (fun x:Row=>x.key) lo hi true (T.take (k+1))).map Row.cells).flatten):=by
      show World.ownsRow _ _ _ _ _ _ _;rw [HE.out];exact kZ (y:=(Row.mk az dU)) bJ
     clear bJ gZ;go_wp2_with fail
     go_roundw
     case rel=>exact ⟨k+1,_,rfl,by omega,by go_num,fo.out,o8.out⟩
     case measure=>simp [intOf];omega
    ·have hd2:decide (az≤hi)=false:=by simp [h2]
     have HE:Hid ((dz (fun x:Row=>x.key) lo hi true (T.take (k+1)))=(dz (fun x:Row=>x.key) lo hi true (T.take k))):=by
      show _=_;unfold dz;rw [fK _ HX.out];simp [h1,h2]
     go_wp2_with fail
     go_roundw
     case rel=>exact ⟨k+1,_,rfl,by omega,by go_num,by rw [HE.out];exact HO.out,bV.out⟩
     case measure=>simp [intOf];omega
   ·have hd1:decide (lo≤az)=false:=by simp [h1]
    have HE:Hid ((dz (fun x:Row=>x.key) lo hi true (T.take (k+1)))=(dz (fun x:Row=>x.key) lo hi true (T.take k))):=by
     show _=_;unfold dz;rw [fK _ HX.out];simp [h1]
    go_wp2_with fail
    go_roundw
    case rel=>exact ⟨k+1,_,rfl,by omega,by go_num,by rw [HE.out];exact HO.out,bV.out⟩
    case measure=>simp [intOf];omega
  ·have hdk:decide ((k:Int)<(n:Int))=false:=by simp;omega
   obtain rfl:k=n:=by omega
   have HT:Hid (wr.ownsRow w.heap.size 128 2 vb (dz (fun x:Row=>x.key) lo hi true T).length ((dz (fun x:Row=>x.key) lo hi true T).map Row.cells).flatten):=by
    have:=HO.out;rw [HL.out,List.take_length] at this;exact this
   go_wp2_with fail
   go_ret
   exact ⟨_,rfl,HT.out,bV.out⟩
theorem DJ (a:Option Addr) (n c:Nat) (T:List Row) (lo hi:Int) (w:World) (h:bQ w.heap.size w ⟨a,n,c⟩ 2 (T.map Row.cells)) (hl:T.length<1000000) :
 Calls Tryz.prog 99 #[.slice a n c,.int .u64 lo,.int .u64 hi,.bool false] w fun e w'=>∃ v',e=.returned v'∧w'.ownsRow w.heap.size 128 2 v' (dz (fun x:Row=>x.key) lo hi false T).length ((dz (fun x:Row=>x.key) lo hi false T).map Row.cells).flatten∧Below w.heap.size w w':=by
 obtain ⟨i0,hi0,hz0,hz1,hz2⟩:=info_parts yK;have hlen:n=T.length:=by simpa using h.len
 have HI:=ae h;have HL:Hid (n=T.length):=hlen;have hnl:n<1000000:=by omega
 clear hlen h;go_enter Tryz.func99,Tryz.ntmps99
 go_wp2_with fail
 go_loopw [9,10] (fun b1 i wr=>∃ (k:Nat) (vb:Value),vb=b1∧k≤n∧i=.int .i64 k∧Hid (wr.ownsRow w.heap.size 128 2 vb (dz (fun x:Row=>x.key) lo hi false (T.take k)).length ((dz (fun x:Row=>x.key) lo hi false (T.take k)).map Row.cells).flatten)∧Hid (Below w.heap.size w wr)) (fun _ i _=>n - (intOf i).toNat)
 case atStart=>exact ⟨0,_,rfl,Nat.zero_le _,rfl,World.ownsRow_nil _ _ _ _,Below.refl _ _⟩
 case round =>
  obtain ⟨k,vb,rfl,hk,rfl,HO,bV⟩:=hrel;by_cases hlt:k<n
  ·have hdk:decide ((k:Int)<(n:Int))=true:=by simp;omega
   obtain ⟨x,hx⟩:∃ x,T[k]? = some x:=⟨T[k]'(by rw [← HL.out];exact hlt),by simp⟩;obtain ⟨b,off,ha,j4,hc⟩:=(HI.out.below bV.out (Nat.le_refl _)).el (i:=k) (x:=x.cells) (by simp [hx]);obtain rfl:a=some ⟨b,off,none⟩:=ha;have HX:Hid (T[k]? = some x):=hx;have HN:Hid ((dz (fun x:Row=>x.key) lo hi false (T.take k)).length<1000000):=Nat.lt_of_le_of_lt (pV _) hl;clear hx;obtain ⟨az,dU⟩:=x;have HC:Hid (∀ (j:Nat) (u:Value),[.int .u64 az,.int .u64 dU][j]? = some u→wr.cell? ⟨b,off+k*2+j,none⟩=some u):=hc;have hkc:wr.cell? ⟨b,off+k*2,none⟩=some (.int .u64 az):=hc 0 _ rfl;clear hc;have hi1:(0:Int)≤(k:Int):=by omega
   have hi2:(k:Int)<(n:Int):=by omega
   by_cases h1:lo≤az
   ·have hd1:decide (lo≤az)=true:=by simp [h1]
    by_cases h2:az≤hi
    ·have hd2:decide (az≤hi)=true:=by simp [h2]
     have HE:Hid ((dz (fun x:Row=>x.key) lo hi false (T.take (k+1)))=(dz (fun x:Row=>x.key) lo hi false (T.take k))):=by
      show _=_;unfold dz;rw [fK _ HX.out];simp [h1,h2]
     go_wp2_with fail
     go_roundw
     case rel=>exact ⟨k+1,_,rfl,by omega,by go_num,by rw [HE.out];exact HO.out,bV.out⟩
     case measure=>simp [intOf];omega
    ·have hd2:decide (az≤hi)=false:=by simp [h2]
     have HE:Hid ((dz (fun x:Row=>x.key) lo hi false (T.take (k+1)))=(dz (fun x:Row=>x.key) lo hi false (T.take k))++[(Row.mk az dU)]):=by
      show _=_;unfold dz;rw [fK _ HX.out];simp [h1,h2]
     go_wp2_with (first
      | (with_reducible show cB 39 128 ..;go_must (refine bB rfl _ _ rfl b (off+k*2) rfl 2 _ ve rfl (by kernel_rfl) [.int .u64 az,.int .u64 dU] rfl HC.out ?_))
      | (at_builtin;go_must (refine aZ _ rfl _ _ 25 rfl w.heap.size 128 i0 (.agg #[.int .u64 0,.int .u64 0]) 2 16 rE hi0 hz0 hz1 hz2 rfl (by decide) vb (dz (fun x:Row=>x.key) lo hi false (T.take k)).length ((dz (fun x:Row=>x.key) lo hi false (T.take k)).map Row.cells).flatten rfl (ay HO.out (aj wr _)) ⟨wr.heap.size,0,none⟩ 1 1 [.int .u64 az,.int .u64 dU] rfl rfl (cu rfl) (cz rfl) (by have:=HN.out;unfold maxLen;omega) (by have:=HN.out;omega) (by have:=bV.out.size;simp;omega) ?_;intro v9 w9 bJ gZ)))
     have o8:Hid (Below w.heap.size w w9):=dO (ai bV.out (aj wr _)) gZ (fun j hj=>(HO.out.lt j hj).1);have fo:Hid (w9.ownsRow w.heap.size 128 2 v9 (dz (fun x:Row=>x.key) lo hi false (T.take (k+1))).length ((dz (fun x:Row=>x.key) lo hi false (T.take (k+1))).map Row.cells).flatten):=by
      show World.ownsRow _ _ _ _ _ _ _;rw [HE.out];exact kZ (y:=(Row.mk az dU)) bJ
     clear bJ gZ;go_wp2_with fail
     go_roundw
     case rel=>exact ⟨k+1,_,rfl,by omega,by go_num,fo.out,o8.out⟩
     case measure=>simp [intOf];omega
   ·have hd1:decide (lo≤az)=false:=by simp [h1]
    have HE:Hid ((dz (fun x:Row=>x.key) lo hi false (T.take (k+1)))=(dz (fun x:Row=>x.key) lo hi false (T.take k))++[(Row.mk az dU)]):=by
     show _=_;unfold dz;rw [fK _ HX.out];simp [h1]
    go_wp2_with (first
     | (with_reducible show cB 39 128 ..;go_must (refine bB rfl _ _ rfl b (off+k*2) rfl 2 _ ve rfl (by kernel_rfl) [.int .u64 az,.int .u64 dU] rfl HC.out ?_))
     | (at_builtin;go_must (refine aZ _ rfl _ _ 25 rfl w.heap.size 128 i0 (.agg #[.int .u64 0,.int .u64 0]) 2 16 rE hi0 hz0 hz1 hz2 rfl (by decide) vb (dz (fun x:Row=>x.key) lo hi false (T.take k)).length ((dz (fun x:Row=>x.key) lo hi false (T.take k)).map Row.cells).flatten rfl (ay HO.out (aj wr _)) ⟨wr.heap.size,0,none⟩ 1 1 [.int .u64 az,.int .u64 dU] rfl rfl (cu rfl) (cz rfl) (by have:=HN.out;unfold maxLen;omega) (by have:=HN.out;omega) (by have:=bV.out.size;simp;omega) ?_;intro v9 w9 bJ gZ)))
    have o8:Hid (Below w.heap.size w w9):=dO (ai bV.out (aj wr _)) gZ (fun j hj=>(HO.out.lt j hj).1);have fo:Hid (w9.ownsRow w.heap.size 128 2 v9 (dz (fun x:Row=>x.key) lo hi false (T.take (k+1))).length ((dz (fun x:Row=>x.key) lo hi false (T.take (k+1))).map Row.cells).flatten):=by
     show World.ownsRow _ _ _ _ _ _ _;rw [HE.out];exact kZ (y:=(Row.mk az dU)) bJ
    clear bJ gZ;go_wp2_with fail
    go_roundw
    case rel=>exact ⟨k+1,_,rfl,by omega,by go_num,fo.out,o8.out⟩
    case measure=>simp [intOf];omega
  ·have hdk:decide ((k:Int)<(n:Int))=false:=by simp;omega
   obtain rfl:k=n:=by omega
   have HT:Hid (wr.ownsRow w.heap.size 128 2 vb (dz (fun x:Row=>x.key) lo hi false T).length ((dz (fun x:Row=>x.key) lo hi false T).map Row.cells).flatten):=by
    have:=HO.out;rw [HL.out,List.take_length] at this;exact this
   go_wp2_with fail
   go_ret
   exact ⟨_,rfl,HT.out,bV.out⟩
theorem UD (a:Option Addr) (n c:Nat) (T:List ak) (lo hi:Int) (w:World) (h:bQ w.heap.size w ⟨a,n,c⟩ 7 (T.map ak.cells)) (hl:T.length<1000000) :
 Calls Tryz.prog 105 #[.slice a n c,.int .u64 lo,.int .u64 hi,.bool true] w fun e w'=>∃ v',e=.returned v'∧w'.ownsRow w.heap.size 57 7 v' (dz (fun x:ak=>x.key) lo hi true T).length ((dz (fun x:ak=>x.key) lo hi true T).map ak.cells).flatten∧Below w.heap.size w w':=by
 obtain ⟨i0,hi0,hz0,hz1,hz2⟩:=info_parts zC;have hlen:n=T.length:=by simpa using h.len
 have HI:=ae h;have HL:Hid (n=T.length):=hlen;have hnl:n<1000000:=by omega
 clear hlen h;go_enter Tryz.func105,Tryz.ntmps105
 go_wp2_with fail
 go_loopw [9,10] (fun b1 i wr=>∃ (k:Nat) (vb:Value),vb=b1∧k≤n∧i=.int .i64 k∧Hid (wr.ownsRow w.heap.size 57 7 vb (dz (fun x:ak=>x.key) lo hi true (T.take k)).length ((dz (fun x:ak=>x.key) lo hi true (T.take k)).map ak.cells).flatten)∧Hid (Below w.heap.size w wr)) (fun _ i _=>n - (intOf i).toNat)
 case atStart=>exact ⟨0,_,rfl,Nat.zero_le _,rfl,World.ownsRow_nil _ _ _ _,Below.refl _ _⟩
 case round =>
  obtain ⟨k,vb,rfl,hk,rfl,HO,bV⟩:=hrel;by_cases hlt:k<n
  ·have hdk:decide ((k:Int)<(n:Int))=true:=by simp;omega
   obtain ⟨x,hx⟩:∃ x,T[k]? = some x:=⟨T[k]'(by rw [← HL.out];exact hlt),by simp⟩;obtain ⟨b,off,ha,j4,hc⟩:=(HI.out.below bV.out (Nat.le_refl _)).el (i:=k) (x:=x.cells) (by simp [hx]);obtain rfl:a=some ⟨b,off,none⟩:=ha;have HX:Hid (T[k]? = some x):=hx;have HN:Hid ((dz (fun x:ak=>x.key) lo hi true (T.take k)).length<1000000):=Nat.lt_of_le_of_lt (pV _) hl;clear hx;obtain ⟨xc,xs,az,xk,xf,xv,xg⟩:=x;have HC:Hid (∀ (j:Nat) (u:Value),(rP xc xs az xk xf xv xg)[j]? = some u→wr.cell? ⟨b,off+k*7+j,none⟩=some u):=hc;have hkc:wr.cell? ⟨b,off+k*7+2,none⟩=some (.int .u64 az):=hc 2 _ rfl;clear hc;have hi1:(0:Int)≤(k:Int):=by omega
   have hi2:(k:Int)<(n:Int):=by omega
   by_cases h1:lo≤az
   ·have hd1:decide (lo≤az)=true:=by simp [h1]
    by_cases h2:az≤hi
    ·have hd2:decide (az≤hi)=true:=by simp [h2]
     have HE:Hid ((dz (fun x:ak=>x.key) lo hi true (T.take (k+1)))=(dz (fun x:ak=>x.key) lo hi true (T.take k))++[(ak.mk xc xs az xk xf xv xg)]):=by
      show _=_;unfold dz;rw [fK _ HX.out];simp [h1,h2]
     go_wp2_with (first
      | (with_reducible show cB 39 57 ..;go_must (refine bB rfl _ _ rfl b (off+k*7) rfl 7 _ dD rfl (by kernel_rfl) (rP xc xs az xk xf xv xg) rfl HC.out ?_))
      | (at_builtin;go_must (refine aZ _ rfl _ _ 27 rfl w.heap.size 57 i0 (.agg bA.toArray) 7 40 qy hi0 hz0 hz1 hz2 rfl (by decide) vb (dz (fun x:ak=>x.key) lo hi true (T.take k)).length ((dz (fun x:ak=>x.key) lo hi true (T.take k)).map ak.cells).flatten rfl (ay HO.out (aj wr _)) ⟨wr.heap.size,0,none⟩ 1 1 (rP xc xs az xk xf xv xg) rfl rfl (cu rfl) (cz rfl) (by have:=HN.out;unfold maxLen;omega) (by have:=HN.out;omega) (by have:=bV.out.size;simp;omega) ?_;intro v9 w9 bJ gZ)))
     have o8:Hid (Below w.heap.size w w9):=dO (ai bV.out (aj wr _)) gZ (fun j hj=>(HO.out.lt j hj).1);have fo:Hid (w9.ownsRow w.heap.size 57 7 v9 (dz (fun x:ak=>x.key) lo hi true (T.take (k+1))).length ((dz (fun x:ak=>x.key) lo hi true (T.take (k+1))).map ak.cells).flatten):=by
      show World.ownsRow _ _ _ _ _ _ _;rw [HE.out];exact kZ (y:=(ak.mk xc xs az xk xf xv xg)) bJ
     clear bJ gZ;go_wp2_with fail
     go_roundw
     case rel=>exact ⟨k+1,_,rfl,by omega,by go_num,fo.out,o8.out⟩
     case measure=>simp [intOf];omega
    ·have hd2:decide (az≤hi)=false:=by simp [h2]
     have HE:Hid ((dz (fun x:ak=>x.key) lo hi true (T.take (k+1)))=(dz (fun x:ak=>x.key) lo hi true (T.take k))):=by
      show _=_;unfold dz;rw [fK _ HX.out];simp [h1,h2]
     go_wp2_with fail
     go_roundw
     case rel=>exact ⟨k+1,_,rfl,by omega,by go_num,by rw [HE.out];exact HO.out,bV.out⟩
     case measure=>simp [intOf];omega
   ·have hd1:decide (lo≤az)=false:=by simp [h1]
    have HE:Hid ((dz (fun x:ak=>x.key) lo hi true (T.take (k+1)))=(dz (fun x:ak=>x.key) lo hi true (T.take k))):=by
     show _=_;unfold dz;rw [fK _ HX.out];simp [h1]
    go_wp2_with fail
    go_roundw
    case rel=>exact ⟨k+1,_,rfl,by omega,by go_num,by rw [HE.out];exact HO.out,bV.out⟩
    case measure=>simp [intOf];omega
  ·have hdk:decide ((k:Int)<(n:Int))=false:=by simp;omega
   obtain rfl:k=n:=by omega
   have HT:Hid (wr.ownsRow w.heap.size 57 7 vb (dz (fun x:ak=>x.key) lo hi true T).length ((dz (fun x:ak=>x.key) lo hi true T).map ak.cells).flatten):=by
    have:=HO.out;rw [HL.out,List.take_length] at this;exact this
   go_wp2_with fail
   go_ret
   exact ⟨_,rfl,HT.out,bV.out⟩
theorem Js (a:Option Addr) (n c:Nat) (T:List ak) (lo hi:Int) (w:World) (h:bQ w.heap.size w ⟨a,n,c⟩ 7 (T.map ak.cells)) (hl:T.length<1000000) :
 Calls Tryz.prog 105 #[.slice a n c,.int .u64 lo,.int .u64 hi,.bool false] w fun e w'=>∃ v',e=.returned v'∧w'.ownsRow w.heap.size 57 7 v' (dz (fun x:ak=>x.key) lo hi false T).length ((dz (fun x:ak=>x.key) lo hi false T).map ak.cells).flatten∧Below w.heap.size w w':=by
 obtain ⟨i0,hi0,hz0,hz1,hz2⟩:=info_parts zC;have hlen:n=T.length:=by simpa using h.len
 have HI:=ae h;have HL:Hid (n=T.length):=hlen;have hnl:n<1000000:=by omega
 clear hlen h;go_enter Tryz.func105,Tryz.ntmps105
 go_wp2_with fail
 go_loopw [9,10] (fun b1 i wr=>∃ (k:Nat) (vb:Value),vb=b1∧k≤n∧i=.int .i64 k∧Hid (wr.ownsRow w.heap.size 57 7 vb (dz (fun x:ak=>x.key) lo hi false (T.take k)).length ((dz (fun x:ak=>x.key) lo hi false (T.take k)).map ak.cells).flatten)∧Hid (Below w.heap.size w wr)) (fun _ i _=>n - (intOf i).toNat)
 case atStart=>exact ⟨0,_,rfl,Nat.zero_le _,rfl,World.ownsRow_nil _ _ _ _,Below.refl _ _⟩
 case round =>
  obtain ⟨k,vb,rfl,hk,rfl,HO,bV⟩:=hrel;by_cases hlt:k<n
  ·have hdk:decide ((k:Int)<(n:Int))=true:=by simp;omega
   obtain ⟨x,hx⟩:∃ x,T[k]? = some x:=⟨T[k]'(by rw [← HL.out];exact hlt),by simp⟩;obtain ⟨b,off,ha,j4,hc⟩:=(HI.out.below bV.out (Nat.le_refl _)).el (i:=k) (x:=x.cells) (by simp [hx]);obtain rfl:a=some ⟨b,off,none⟩:=ha;have HX:Hid (T[k]? = some x):=hx;have HN:Hid ((dz (fun x:ak=>x.key) lo hi false (T.take k)).length<1000000):=Nat.lt_of_le_of_lt (pV _) hl;clear hx;obtain ⟨xc,xs,az,xk,xf,xv,xg⟩:=x;have HC:Hid (∀ (j:Nat) (u:Value),(rP xc xs az xk xf xv xg)[j]? = some u→wr.cell? ⟨b,off+k*7+j,none⟩=some u):=hc;have hkc:wr.cell? ⟨b,off+k*7+2,none⟩=some (.int .u64 az):=hc 2 _ rfl;clear hc;have hi1:(0:Int)≤(k:Int):=by omega
   have hi2:(k:Int)<(n:Int):=by omega
   by_cases h1:lo≤az
   ·have hd1:decide (lo≤az)=true:=by simp [h1]
    by_cases h2:az≤hi
    ·have hd2:decide (az≤hi)=true:=by simp [h2]
     have HE:Hid ((dz (fun x:ak=>x.key) lo hi false (T.take (k+1)))=(dz (fun x:ak=>x.key) lo hi false (T.take k))):=by
      show _=_;unfold dz;rw [fK _ HX.out];simp [h1,h2]
     go_wp2_with fail
     go_roundw
     case rel=>exact ⟨k+1,_,rfl,by omega,by go_num,by rw [HE.out];exact HO.out,bV.out⟩
     case measure=>simp [intOf];omega
    ·have hd2:decide (az≤hi)=false:=by simp [h2]
     have HE:Hid ((dz (fun x:ak=>x.key) lo hi false (T.take (k+1)))=(dz (fun x:ak=>x.key) lo hi false (T.take k))++[(ak.mk xc xs az xk xf xv xg)]):=by
      show _=_;unfold dz;rw [fK _ HX.out];simp [h1,h2]
     go_wp2_with (first
      | (with_reducible show cB 39 57 ..;go_must (refine bB rfl _ _ rfl b (off+k*7) rfl 7 _ dD rfl (by kernel_rfl) (rP xc xs az xk xf xv xg) rfl HC.out ?_))
      | (at_builtin;go_must (refine aZ _ rfl _ _ 27 rfl w.heap.size 57 i0 (.agg bA.toArray) 7 40 qy hi0 hz0 hz1 hz2 rfl (by decide) vb (dz (fun x:ak=>x.key) lo hi false (T.take k)).length ((dz (fun x:ak=>x.key) lo hi false (T.take k)).map ak.cells).flatten rfl (ay HO.out (aj wr _)) ⟨wr.heap.size,0,none⟩ 1 1 (rP xc xs az xk xf xv xg) rfl rfl (cu rfl) (cz rfl) (by have:=HN.out;unfold maxLen;omega) (by have:=HN.out;omega) (by have:=bV.out.size;simp;omega) ?_;intro v9 w9 bJ gZ)))
     have o8:Hid (Below w.heap.size w w9):=dO (ai bV.out (aj wr _)) gZ (fun j hj=>(HO.out.lt j hj).1);have fo:Hid (w9.ownsRow w.heap.size 57 7 v9 (dz (fun x:ak=>x.key) lo hi false (T.take (k+1))).length ((dz (fun x:ak=>x.key) lo hi false (T.take (k+1))).map ak.cells).flatten):=by
      show World.ownsRow _ _ _ _ _ _ _;rw [HE.out];exact kZ (y:=(ak.mk xc xs az xk xf xv xg)) bJ
     clear bJ gZ;go_wp2_with fail
     go_roundw
     case rel=>exact ⟨k+1,_,rfl,by omega,by go_num,fo.out,o8.out⟩
     case measure=>simp [intOf];omega
   ·have hd1:decide (lo≤az)=false:=by simp [h1]
    have HE:Hid ((dz (fun x:ak=>x.key) lo hi false (T.take (k+1)))=(dz (fun x:ak=>x.key) lo hi false (T.take k))++[(ak.mk xc xs az xk xf xv xg)]):=by
     show _=_;unfold dz;rw [fK _ HX.out];simp [h1]
    go_wp2_with (first
     | (with_reducible show cB 39 57 ..;go_must (refine bB rfl _ _ rfl b (off+k*7) rfl 7 _ dD rfl (by kernel_rfl) (rP xc xs az xk xf xv xg) rfl HC.out ?_))
     | (at_builtin;go_must (refine aZ _ rfl _ _ 27 rfl w.heap.size 57 i0 (.agg bA.toArray) 7 40 qy hi0 hz0 hz1 hz2 rfl (by decide) vb (dz (fun x:ak=>x.key) lo hi false (T.take k)).length ((dz (fun x:ak=>x.key) lo hi false (T.take k)).map ak.cells).flatten rfl (ay HO.out (aj wr _)) ⟨wr.heap.size,0,none⟩ 1 1 (rP xc xs az xk xf xv xg) rfl rfl (cu rfl) (cz rfl) (by have:=HN.out;unfold maxLen;omega) (by have:=HN.out;omega) (by have:=bV.out.size;simp;omega) ?_;intro v9 w9 bJ gZ)))
    have o8:Hid (Below w.heap.size w w9):=dO (ai bV.out (aj wr _)) gZ (fun j hj=>(HO.out.lt j hj).1);have fo:Hid (w9.ownsRow w.heap.size 57 7 v9 (dz (fun x:ak=>x.key) lo hi false (T.take (k+1))).length ((dz (fun x:ak=>x.key) lo hi false (T.take (k+1))).map ak.cells).flatten):=by
     show World.ownsRow _ _ _ _ _ _ _;rw [HE.out];exact kZ (y:=(ak.mk xc xs az xk xf xv xg)) bJ
    clear bJ gZ;go_wp2_with fail
    go_roundw
    case rel=>exact ⟨k+1,_,rfl,by omega,by go_num,fo.out,o8.out⟩
    case measure=>simp [intOf];omega
  ·have hdk:decide ((k:Int)<(n:Int))=false:=by simp;omega
   obtain rfl:k=n:=by omega
   have HT:Hid (wr.ownsRow w.heap.size 57 7 vb (dz (fun x:ak=>x.key) lo hi false T).length ((dz (fun x:ak=>x.key) lo hi false T).map ak.cells).flatten):=by
    have:=HO.out;rw [HL.out,List.take_length] at this;exact this
   go_wp2_with fail
   go_ret
   exact ⟨_,rfl,HT.out,bV.out⟩
end
end Go.Proofs.YtignemioillaiaaGreat
