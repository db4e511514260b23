/- shard.delegate, shard.do of a Delegate. -/
import Derived.Test.YtignemioillaiaaGreatG15
namespace Go.Proofs.YtignemioillaiaaGreat
set_option maxHeartbeats 8000000
set_option maxRecDepth 100000
section
open Go.RowKit Go.Lib
theorem Zr {D:List ak} {p:ak} {N:Nat} (h:D.length<N):(nU D p).length<N+1:=by
 unfold nU;split
 ·rw [List.length_set];omega
 ·unfold CV;simp only [List.length_append,List.length_take,List.length_cons,List.length_drop];omega
theorem Zt {w w':World} {base lim b:Nat} {g n:Int} {vT vM vD vO vI:Value} {T:List Row} {M:List Pc} {D D':List ak} {L:List ax} {I:List Int} (h:qI w base b g n vT vM vD vO vI T M D L I) (ho:Jk base lim (oK b vT vD) b g n vT vM vD vO vI T D' w w'):∃ eY,qI w' base b g n vT vM eY vO vI T M D' L I∧av (oK b vT vD) w w'∧yl w vD eY:=by
 obtain ⟨eY,hS,hM,hf⟩:=ho;exact ⟨eY,h.turn hS hM.dX (.inl rfl) hf,hM.dX,hf⟩
theorem abF {b gO cap j N k:Nat} {vT vM vD vI:Value} {L:List ax} {bz:Int} {eG:Option Addr} {eP eQ:Nat} {lq:List aF} (h:∀ k,nJ b vT vM vD (.slice (some ⟨gO,0,none⟩) L.length cap) vI L k→k<N) (hl:L[j]? = some ⟨bz,⟨eG,eP,eQ⟩,lq⟩) (hk:N≤k):¬ (k=b∨k=gO∨Value.ownBlock (.slice eG eP eQ)=some k):=by
 intro e;have:nJ b vT vM vD (.slice (some ⟨gO,0,none⟩) L.length cap) vI L k:=by
  rcases e with e | e | e
  ·exact .inl e
  ·exact .inr (.inr (.inr (.inr (.inl (by rw [e];rfl)))))
  ·exact .inr (.inr (.inr (.inr (.inr (.inr (.inl ⟨_,List.mem_map.2 ⟨_,List.mem_of_getElem? hl,rfl⟩,e⟩))))))
 have:=h k this;omega
theorem Rt (w:World) (base lim:Nat) (X:Nat→Prop) (b:Nat) (g n:Int) (vT vM vD vO vI:Value) (T:List Row) (D:List ak) (qc qs qk ag qv au aA:Int) (rc rs aC rk:Int) (rf:Bool) (rv rg:Int) (h:mq w base b g n vT vM vD vO vI T D) (yJ:eU D) (hb:base≤w.heap.size) (Sg:lim≤w.heap.size) (hbl:b<lim∧X b) (gY:∀ k,vT.ownBlock=some k→k<lim∧X k) (gU:∀ k,vD.ownBlock=some k→k<lim∧X k) (hnD:D.length<1000000) (hp:∀ W,Below w.heap.size w W→Calls Tryz.prog 179 #[.pointer (some ⟨b,0,none⟩),.agg (rQ qc qs qk ag qv au aA).toArray] W fun e w'=>∃ v',e=.returned (.tuple #[v',.bool false])∧Below W.heap.size W w') :
 Calls Tryz.prog 142 #[.pointer (some ⟨b,0,none⟩),.agg (rQ qc qs qk ag qv au aA).toArray,.agg (rP rc rs aC rk rf rv rg).toArray] w fun e w'=>e=.returned (.agg (rP rc rs aC 5 rf rv rg).toArray)∧LP base lim X b g n vT vM vD vO vI T (nU D (ak.mk rc rs aC 5 rf rv rg)) w w':=by
 obtain ⟨W,hW⟩:∃ W,W=((w.alloc (.cells (rQ qc qs qk ag qv au aA).toArray 50)).alloc (.cells (rP rc rs aC rk rf rv rg).toArray 57)).alloc (.cells bA.toArray 57):=⟨_,rfl⟩;obtain ⟨hQ,hR,hZ,bE,hWs⟩:=three w (.cells (rQ qc qs qk ag qv au aA).toArray 50) (.cells (rP rc rs aC rk rf rv rg).toArray 57) (.cells bA.toArray 57);rw [← hW] at hQ hR hZ bE hWs;have HH:Hid (mq w base b g n vT vM vD vO vI T D):=h;have Au:Hid (eU D):=yJ;have dQ:Hid (Below w.heap.size w W):=bE;have HQ:Hid (W.heap[w.heap.size]? = some (.cells (rQ qc qs qk ag qv au aA).toArray 50)):=hQ;have HR:Hid (W.heap[w.heap.size+1]? = some (.cells (rP rc rs aC rk rf rv rg).toArray 57)):=hR;have HZ:Hid (W.heap[w.heap.size+1+1]? = some (.cells bA.toArray 57)):=hZ;have Ig:=ah hQ;have HP:=ae hp;clear h yJ bE hQ hR hZ Ig hp;go_enter Tryz.func142,Tryz.ntmps142
 go_upto_region 1 with fail
 rw [← hW];clear hW;have VX:W.cell? ⟨w.heap.size,2,none⟩=some (.int .u8 qk):=ah HQ.out 2;have VY:W.cell? ⟨w.heap.size,3,none⟩=some (.int .u64 ag):=ah HQ.out 3;have VZ:W.cell? ⟨w.heap.size,4,none⟩=some (.int .u64 qv):=ah HQ.out 4;have pR:Hid (W.heap.size=w.heap.size+3):=hWs;have uu:Hid (mq W base b g n vT vM vD vO vI T D):=HH.out.later dQ.out;go_wp2_with (first
  | (with_reducible show cB 11 50 ..;go_must (refine dF w.heap.size 0 7 wR (rQ qc qs qk ag qv au aA) 50 HQ.out (rQ qc qs qk ag qv au aA) ?_))
  | (go_at_call 179;go_must (refine (HP.out _ dQ.out).mono ?_;rintro e w1 ⟨vp,rfl,hb1⟩;have HB1:Hid (Below W.heap.size W w1):=ae hb1;have HR1:Hid (w1.heap[w.heap.size+1]? = some (.cells (rP rc rs aC rk rf rv rg).toArray 57)):=ae (af hb1 HR.out);have HZ1:Hid (w1.heap[w.heap.size+1+1]? = some (.cells bA.toArray 57)):=ae (af hb1 HZ.out)))
  | (with_reducible show dJ 5 17 ..;go_must (refine oZ (w.heap.size+1) 3 (.int .u8 5) (rP rc rs aC rk rf rv rg) 57 HR1.out (rP rc rs aC 5 rf rv rg) ?_;intro w2 hw ho;have HR2:Hid (w2.heap[w.heap.size+1]? = some (.cells (rP rc rs aC 5 rf rv rg).toArray 57)):=ae (hw);have dZ:Hid (Only (w.heap.size+1) w1 w2):=ae (ho);clear hw ho;have HS2:Hid (mq w2 base b g n vT vM vD vO vI T D):=ae ((uu.out.later HB1.out).box dZ.out (by omega) hbl gY gU);have HZ2:Hid (w2.heap[w.heap.size+1+1]? = some (.cells bA.toArray 57)):=ae ((dZ.out.block _ (by omega)).trans HZ1.out);have DI:Hid (w.heap.size+3≤w2.heap.size):=ae (by rw [dZ.out.size,← pR.out];exact HB1.out.size);have HL2:Hid (Mod base lim X w w2):=ae ((Mod.later (ai dQ.out HB1.out)).box dZ.out (by omega))))
  | (with_reducible show cB 19 57 ..;go_must (refine dF (w.heap.size+1) 0 7 dD (rP rc rs aC 5 rf rv rg) 57 HR2.out (rP rc rs aC 5 rf rv rg) ?_))
  | (go_at_call 143;go_must (refine (zz _ base lim X b g n vT vM vD vO vI T D rc rs aC 5 rf rv rg HS2.out Au.out (by have:=DI.out;omega) hbl gU hnD).mono ?_;rintro e w3 ⟨rfl,hout⟩;have pQ:Hid (Jk base lim X b g n vT vM vD vO vI T (nU D (ak.mk rc rs aC 5 rf rv rg)) w2 w3):=ae (hout);have AY:Hid (Mod base lim X w2 w3):=ae (by obtain ⟨_,_,h,_⟩:=hout;exact h);have HR3:Hid (w3.heap[w.heap.size+1]? = some (.cells (rP rc rs aC 5 rf rv rg).toArray 57)):=ae (AY.out.blk HR2.out (by omega));have HZ3:Hid (w3.heap[w.heap.size+1+1]? = some (.cells bA.toArray 57)):=ae (AY.out.blk HZ2.out (by omega));clear hout))
  | (with_reducible show cB 21 57 ..;go_must (refine dF (w.heap.size+1) 0 7 dD (rP rc rs aC 5 rf rv rg) 57 HR3.out (rP rc rs aC 5 rf rv rg) ?_))
  | (with_reducible show wpList _ _ _ ({ dst:=none,op:=Op.store 57 _ _,type:=_,pos:=_,after:=_,guard:=none }::_) _ _;go_must (refine fH (w.heap.size+1+1) 0 (rP rc rs aC 5 rf rv rg) _ bA 57 HZ3.out (rP rc rs aC 5 rf rv rg) ?_;intro w4 hw ho;have xQ:Hid (w4.heap[w.heap.size+1+1]? = some (.cells (rP rc rs aC 5 rf rv rg).toArray 57)):=ae (hw);have fo:Hid (Only (w.heap.size+1+1) w3 w4):=ae (ho);clear hw ho)))
 refine bodyPost_ret (v:=.agg (rP rc rs aC 5 rf rv rg).toArray) (results_cell_row Tryz.results142 _ _ (w.heap.size+1+1) 57 _ (0,0) _ rfl xQ.out dD rfl (by kernel_rfl)) rfl ⟨rfl,?_⟩;obtain ⟨eY,hS,hM,hF⟩:=pQ.out;have hm2:=DI.out;exact ⟨vT,eY,hS.Ai fo.out (by omega) (fun e=>by have:=gY _ e;omega) (hF.ne gU (by omega) (by omega)),(HL2.out.trans hM).box fo.out (by omega),.inl rfl,hF.mono (by omega)⟩
def Jw (T:List Row) (lo hi:Int):List Row:=sB (fun x:Row=>x.key) lo T++sA (fun x:Row=>x.key) lo hi T
def Jy (D:List ak) (lo hi:Int):List ak:=sB (fun x:ak=>x.key) lo D++sA (fun x:ak=>x.key) lo hi D
def Ow (g j next lo hi:Int) (T:List Row) (D:List ak):Rg:=⟨g,j,next,lo,hi,sW (fun x:Row=>x.key) lo hi T,sW (fun x:ak=>x.key) lo hi D⟩
theorem Ru (w:World) (base b gO cap j:Nat) (g n:Int) (vT vM vD vI:Value) (T:List Row) (M M':List Pc) (D:List ak) (L:List ax) (I:List Int) (bz:Int) (eG:Option Addr) (eP eQ:Nat) (lq:List aF) (qc qs qk ag qv au aA:Int) (rc rs aC rk:Int) (rf:Bool) (rv rg:Int) (h:qI w base b g n vT vM vD (.slice (some ⟨gO,0,none⟩) L.length cap) vI T M D L I) (yJ:eU D) (hb:base≤w.heap.size) (GG:T.length<1000000) (hnD:D.length<999999)
 (hl:L[j]? = some ⟨bz,⟨eG,eP,eQ⟩,lq⟩) (hnq:lq.length<1000000) (hto:aA=(j:Int)) (hp:∀ W,Below w.heap.size w W→Calls Tryz.prog 179 #[.pointer (some ⟨b,0,none⟩),.agg (rQ qc qs qk ag qv au aA).toArray] W fun e w'=>∃ v',e=.returned (.tuple #[v',.bool true])∧w'.ownsRow W.heap.size 107 2 v' M'.length (M'.map Pc.cells).flatten∧Below W.heap.size W w') :
 Calls Tryz.prog 142 #[.pointer (some ⟨b,0,none⟩),.agg (rQ qc qs qk ag qv au aA).toArray,.agg (rP rc rs aC rk rf rv rg).toArray] w fun e w'=>e=.returned (.agg (rP rc rs aC 2 rf rv rg).toArray)∧nK base b g n vT vM vD (.slice (some ⟨gO,0,none⟩) L.length cap) vI L (Jw T ag au) M' (Jy (nU D (ak.mk rc rs aC 2 rf rv rg)) ag au) ((L.map ax.core).set j (IntKind.u32.wrap (bz+1),lq.map aF.core++[Ow g j bz ag au T (nU D (ak.mk rc rs aC 2 rf rv rg))])) I w w':=by
 obtain ⟨W,hW⟩:∃ W,W=((w.alloc (.cells (rQ qc qs qk ag qv au aA).toArray 50)).alloc (.cells (rP rc rs aC rk rf rv rg).toArray 57)).alloc (.cells bA.toArray 57):=⟨_,rfl⟩;obtain ⟨hQ,hR,hZ,bE,hWs⟩:=three w (.cells (rQ qc qs qk ag qv au aA).toArray 50) (.cells (rP rc rs aC rk rf rv rg).toArray 57) (.cells bA.toArray 57);rw [← hW] at hQ hR hZ bE hWs;have HH:=ae h;have Au:Hid (eU D):=yJ;have dQ:Hid (Below w.heap.size w W):=bE;have HQ:Hid (W.heap[w.heap.size]? = some (.cells (rQ qc qs qk ag qv au aA).toArray 50)):=hQ;have HR:Hid (W.heap[w.heap.size+1]? = some (.cells (rP rc rs aC rk rf rv rg).toArray 57)):=hR;have HZ:Hid (W.heap[w.heap.size+1+1]? = some (.cells bA.toArray 57)):=hZ;have pR:Hid (W.heap.size=w.heap.size+3):=hWs;have HP:=ae hp;have A8:=ae hl;have yM:=ae hto;have Ja:=ae h.lt;have gY:∀ k,vT.ownBlock=some k→k<w.heap.size∧oK b vT vD k:=fun k hk=>⟨(h.m.oT.lt k hk).2,.inr (.inl hk)⟩
 have gU:∀ k,vD.ownBlock=some k→k<w.heap.size∧oK b vT vD k:=fun k hk=>⟨(h.m.oD.lt k hk).2,.inr (.inr hk)⟩
 have hbl:b<w.heap.size∧oK b vT vD b:=⟨(df h.cell),.inl rfl⟩;clear h yJ bE hQ hR hZ hWs hp hl hto;go_enter Tryz.func142,Tryz.ntmps142
 go_upto_region 1 with fail
 rw [← hW];clear hW;go_wp2_with (first
  | (with_reducible show cB 11 50 ..;go_must (refine dF w.heap.size 0 7 wR (rQ qc qs qk ag qv au aA) 50 HQ.out (rQ qc qs qk ag qv au aA) ?_))
  | (go_at_call 179;go_must (refine (HP.out _ dQ.out).mono ?_;rintro e w1 ⟨vG,rfl,hg1,hb1⟩;have h1G:=dR hg1;have Ce:=ae hg1;have HB1:Hid (Below W.heap.size W w1):=ae hb1;have HR1:Hid (w1.heap[w.heap.size+1]? = some (.cells (rP rc rs aC rk rf rv rg).toArray 57)):=ae (af hb1 HR.out);have HZ1:Hid (w1.heap[w.heap.size+1+1]? = some (.cells bA.toArray 57)):=ae (af hb1 HZ.out);have pz:Hid (w1.heap[w.heap.size]? = some (.cells (rQ qc qs qk ag qv au aA).toArray 50)):=ae (af hb1 HQ.out);clear hg1 hb1))
  | (with_reducible show dJ 5 22 ..;go_must (refine oZ (w.heap.size+1) 3 (.int .u8 2) (rP rc rs aC rk rf rv rg) 57 HR1.out (rP rc rs aC 2 rf rv rg) ?_;intro w2 hw ho;have HR2:Hid (w2.heap[w.heap.size+1]? = some (.cells (rP rc rs aC 2 rf rv rg).toArray 57)):=ae (hw);have dZ:Hid (Only (w.heap.size+1) w1 w2):=ae (ho);clear hw ho;have DT:Hid (Below w.heap.size w w2):=ae ((ai dQ.out HB1.out).trans (dZ.out.below (Nat.le_succ _)));have HS2:Hid (qI w2 base b g n vT vM vD (.slice (some ⟨gO,0,none⟩) L.length cap) vI T M D L I):=ae (HH.out.later DT.out);have HZ2:Hid (w2.heap[w.heap.size+1+1]? = some (.cells bA.toArray 57)):=ae ((dZ.out.block _ (by omega)).trans HZ1.out);have qP:Hid (w2.heap[w.heap.size]? = some (.cells (rQ qc qs qk ag qv au aA).toArray 50)):=ae ((dZ.out.block _ (by omega)).trans pz.out);have DI:Hid (w.heap.size+3≤w2.heap.size):=ae (by rw [dZ.out.size,← pR.out];exact HB1.out.size);have HG2:Hid (w2.ownsRow W.heap.size 107 2 vG M'.length (M'.map Pc.cells).flatten):=ae (dB Ce.out (av.only (A:=fun k=>k=w.heap.size+1) dZ.out rfl) (fun k hk e=>by have:=(Ce.out.lt k hk).1;rw [pR.out] at this;omega))))
  | (with_reducible show cB 24 57 ..;go_must (refine dF (w.heap.size+1) 0 7 dD (rP rc rs aC 2 rf rv rg) 57 HR2.out (rP rc rs aC 2 rf rv rg) ?_))
  | (go_at_call 143;go_must (refine (zz _ base w.heap.size (oK b vT vD) b g n vT vM vD (.slice (some ⟨gO,0,none⟩) L.length cap) vI T D rc rs aC 2 rf rv rg HS2.out.Lb Au.out (by have:=DI.out;omega) hbl gU (by omega)).mono ?_;rintro e w3 ⟨rfl,hout⟩;have pQ:=ae hout;clear hout;have AY:Hid (av (oK b vT vD) w2 w3):=ae (by obtain ⟨_,_,h,_⟩:=pQ.out;exact h.dX);have SQ:Hid (∀ k,w.heap.size≤k→¬ oK b vT vD k):=ae (fun k hk e=>by have:=Ja.out k e.foot;omega);have HR3:Hid (w3.heap[w.heap.size+1]? = some (.cells (rP rc rs aC 2 rf rv rg).toArray 57)):=ae (nQ HR2.out AY.out (SQ.out _ (by omega)));have HZ3:Hid (w3.heap[w.heap.size+1+1]? = some (.cells bA.toArray 57)):=ae (nQ HZ2.out AY.out (SQ.out _ (by omega)));have HQ3:Hid (w3.heap[w.heap.size]? = some (.cells (rQ qc qs qk ag qv au aA).toArray 50)):=ae (nQ qP.out AY.out (SQ.out _ (by omega)));have KX:Hid (w3.ownsRow W.heap.size 107 2 vG M'.length (M'.map Pc.cells).flatten):=ae (dB HG2.out AY.out (fun k hk=>SQ.out k (by have:=(HG2.out.lt k hk).1;rw [pR.out] at this;omega)));obtain ⟨vD1,qp⟩:=Zt HS2.out pQ.out;have uF:=ae qp;clear qp))
  | (with_reducible show cB 27 50 ..;go_must (refine dF w.heap.size 0 7 wR (rQ qc qs qk ag qv au aA) 50 HQ3.out (rQ qc qs qk ag qv au aA) ?_))
  | (go_at_call 180;go_must (refine (SN _ base b gO cap j g n vT vM vD1 vI T (nU D (ak.mk rc rs aC 2 rf rv rg)) L bz eG eP eQ lq qc qs qk ag qv au aA uF.out.1.cell uF.out.1.m.oT uF.out.1.m.oD uF.out.1.m.oO A8.out (uF.out.1.m.ln.own _ (List.mem_of_getElem? A8.out)) yM.out (by have h1:=DI.out;have h2:=AY.out.size;omega) GG (Zr hnD) hnq).mono ?_;rintro e w4 ⟨rfl,dN,eY,hrs,hds,hqs,hh⟩;have HHD:=ae hh;clear hh;have C8:Hid (∀ k,w.heap.size≤k→k<w2.heap.size→¬ (k=b∨k=gO∨Value.ownBlock (.slice eG eP eQ)=some k)):=ae (fun k hk hk2 e=>abF Ja.out A8.out hk e);have HR4:Hid (w4.heap[w.heap.size+1]? = some (.cells (rP rc rs aC 2 rf rv rg).toArray 57)):=ae (nQ HR3.out HHD.out.dX (C8.out _ (by omega) (by have:=DI.out;omega)));have HZ4:Hid (w4.heap[w.heap.size+1+1]? = some (.cells bA.toArray 57)):=ae (nQ HZ3.out HHD.out.dX (C8.out _ (by omega) (by have:=DI.out;omega)))))
  | (with_reducible show wpList _ _ _ ({ dst:=none,op:=Op.store 26 _ _,type:=_,pos:=_,after:=_,guard:=none }::_) _ _;go_must (refine cZ rfl _ _ _ rfl rfl b 3 rfl vG rfl (by kernel_rfl) h1G [.int .u8 g,.int .u8 n,dN,vM,eY,.slice (some ⟨gO,0,none⟩) L.length cap,vI] 31 HHD.out.cell rfl [.int .u8 g,.int .u8 n,dN,vG,eY,.slice (some ⟨gO,0,none⟩) L.length cap,vI] rfl ?_;intro w5 hw ho;have KZ:Hid (w5.heap[b]? = some (.cells #[.int .u8 g,.int .u8 n,dN,vG,eY,.slice (some ⟨gO,0,none⟩) L.length cap,vI] 31)):=ae hw;have ru:Hid (Only b w4 w5):=ae ho;clear hw ho;have zU:Hid (w5.heap[w.heap.size+1]? = some (.cells (rP rc rs aC 2 rf rv rg).toArray 57)):=ae ((ru.out.block _ (by omega)).trans HR4.out);have Nc:Hid (w5.heap[w.heap.size+1+1]? = some (.cells bA.toArray 57)):=ae ((ru.out.block _ (by omega)).trans HZ4.out)))
  | (with_reducible show cB 33 57 ..;go_must (refine dF (w.heap.size+1) 0 7 dD (rP rc rs aC 2 rf rv rg) 57 zU.out (rP rc rs aC 2 rf rv rg) ?_))
  | (with_reducible show wpList _ _ _ ({ dst:=none,op:=Op.store 57 _ _,type:=_,pos:=_,after:=_,guard:=none }::_) _ _;go_must (refine fH (w.heap.size+1+1) 0 (rP rc rs aC 2 rf rv rg) _ bA 57 Nc.out (rP rc rs aC 2 rf rv rg) ?_;intro w6 hw ho;have xQ:Hid (w6.heap[w.heap.size+1+1]? = some (.cells (rP rc rs aC 2 rf rv rg).toArray 57)):=ae (hw);have fo:Hid (Only (w.heap.size+1+1) w5 w6):=ae (ho);clear hw ho)))
 refine bodyPost_ret (v:=.agg (rP rc rs aC 2 rf rv rg).toArray) (results_cell_row Tryz.results142 _ _ (w.heap.size+1+1) 57 _ (0,0) _ rfl xQ.out dD rfl (by kernel_rfl)) rfl ⟨rfl,?_⟩;have ahM:base≤w3.heap.size:=by have h1:=DI.out;have h2:=AY.out.size;omega
 obtain ⟨hP,hC,hF⟩:=uF.out.1.hand A8.out HHD.out (dE KX.out (by rw [pR.out];omega)) ru.out KZ.out ahM;have hw3:=AY.out.size;have hm2:=DI.out;have hold:∀ k,nJ b vT vM vD1 (.slice (some ⟨gO,0,none⟩) L.length cap) vI L k→nJ b vT vM vD (.slice (some ⟨gO,0,none⟩) L.length cap) vI L k∨w2.heap.size≤k:=by
  intro k hk;rcases hk with hk | hk | hk | hk | hk
  ·exact .inl (.inl hk)
  ·exact .inl (.inr (.inl hk))
  ·exact .inl (.inr (.inr (.inl hk)))
  ·rcases uF.out.2.2 with e | e
   ·exact .inl (.inr (.inr (.inr (.inl (e ▸ hk)))))
   ·exact .inr (e k hk)
  ·exact .inl (.inr (.inr (.inr (.inr hk))))
 have hG3:∀ k,vG.ownBlock=some k→w.heap.size+3≤k:=fun k hk=>by have:=(KX.out.lt k hk).1;rw [pR.out] at this;exact this
 have hnew:∀ k,nJ b dN vG eY (.slice (some ⟨gO,0,none⟩) L.length cap) vI (L.set j ⟨IntKind.u32.wrap (bz+1),hqs,lq++[aF.mk g j bz ag au hrs hds (sW (fun x:Row=>x.key) ag au T) (sW (fun x:ak=>x.key) ag au (nU D (ak.mk rc rs aC 2 rf rv rg)))]⟩) k→nJ b vT vM vD (.slice (some ⟨gO,0,none⟩) L.length cap) vI L k∨w.heap.size+3≤k:=by
  intro k hk;rcases hF k hk with h1 | h1 | h1
  ·rcases hold k h1 with h2 | h2
   ·exact .inl h2
   ·exact .inr (by omega)
  ·exact .inr (hG3 k h1)
  ·exact .inr (by omega)
 refine ⟨dN,vG,eY,(.slice (some ⟨gO,0,none⟩) L.length cap),vI,_,hP.dX (av.only (A:=fun k=>k=w.heap.size+1+1) fo.out rfl) (fun k hk e=>?_),?_,?_,fun k hk=>?_⟩
 ·subst e
  rcases hnew _ hk with h1 | h1
  ·have:=Ja.out _ h1;omega
  ·omega
 ·rw [List.map_set];simp [ax.core,aF.core,Ow]
 ·have c2:av (nJ b vT vM vD (.slice (some ⟨gO,0,none⟩) L.length cap) vI L) w w2:=av.later DT.out
  have c3:=c2.trans' uF.out.2.1 (fun k _ e=>e.foot);have c5:=c3.trans' hC (fun k hk e=>by
   rcases hold k e with h1 | h1
   ·exact h1
   ·omega)
  exact c5.trans' (av.only (A:=fun k=>k=w.heap.size+1+1) fo.out rfl) (fun k hk e=>by omega)
 ·rcases hnew k hk with h1 | h1
  ·exact .inl h1
  ·exact .inr (by omega)
structure St where
 (g n:Int)
 T:List Row
 M:List Pc
 D:List ak
 O:List (Int×List Rg)
 I:List Int
def qJ (O:List (Int×List Rg)) (k:Int):Int×List Rg:=(O[k.toNat]?).getD (0,[])
def om (s:St) (q:bH):Bool:=!(q.to == s.g) && decide (q.to<s.n) && decide ((qJ s.O q.to).2.length<4) && decide ((dG s.M q.key q.hi q.to).length≤8)
def Ox (q:bH):ak:=⟨q.c,q.s,q.key,0,false,0,0⟩
def uw (s:St) (q:bH):ak :=
 if q.k=1 then ⟨q.c,q.s,q.key,1,o7 s.T q.key,qR s.T q.key,0⟩
 else if q.k=2 then ⟨q.c,q.s,q.key,sJ s.T q.key,false,0,0⟩
 else if q.k=3 then ⟨q.c,q.s,q.key,2,false,0,0⟩
 else if om s q then ⟨q.c,q.s,q.key,2,false,0,0⟩ else ⟨q.c,q.s,q.key,5,false,0,0⟩
def LU (s:St) (q:bH) (D1:List ak):St:={ s with T:=Jw s.T q.key q.hi,M:=dG s.M q.key q.hi q.to,D:=Jy D1 q.key q.hi,O:=s.O.set q.to.toNat (IntKind.u32.wrap ((qJ s.O q.to).1+1),(qJ s.O q.to).2++[Ow s.g q.to (qJ s.O q.to).1 q.key q.hi s.T D1]) }
def qh (s:St) (q:bH):St :=
 if q.k=2 then { s with T:=zl s.T q.key q.v,D:=nU s.D (uw s q) }
 else if q.k=3 then { s with T:=Ag s.T q.key,D:=nU s.D (uw s q) }
 else if q.k=4∧om s q=true then LU s q (nU s.D (uw s q))
 else { s with D:=nU s.D (uw s q) }
structure ku (s:St):Prop where
 g0:0≤s.g
 gn:s.g<s.n
 n4:s.n≤4
 sT:jZ s.T
 sD:eU s.D
 FP:nM s.M=true
 can:Can s.M
 ml:s.M.length≤1000
 ol:(s.O.length:Int)=s.n
 il:(s.I.length:Int)=s.n
structure nL (N:Nat) (s:St):Prop where
 t:s.T.length<N
 d:s.D.length<N
 q:∀ x∈s.O,x.2.length<N∧∀ r∈x.2,r.rows.length<N∧r.bP.length<N
theorem abG (w:World) (base b:Nat) (g n:Int) (vT vM vD vO vI:Value) (T:List Row) (M:List Pc) (D:List ak) (L:List ax) (I:List Int) (T':List Row) (M':List Pc) (D':List ak) (O':List (Int×List Rg)) (I':List Int) (qc qs qk ag qv au aA:Int) (rc rs aC rk:Int) (rf:Bool) (rv rg:Int) (pc ps eZ pk:Int) (pf:Bool) (pv pg:Int) (h:qI w base b g n vT vM vD vO vI T M D L I)
 (hdl:∀ W,Below w.heap.size w W→Calls Tryz.prog 142 #[.pointer (some ⟨b,0,none⟩),.agg (rQ qc qs qk ag qv au aA).toArray,.agg (rP rc rs aC rk rf rv rg).toArray] W fun e w'=>e=.returned (.agg (rP pc ps eZ pk pf pv pg).toArray)∧nK base b g n vT vM vD vO vI L T' M' D' O' I' W w') (hk1:(qk == 1)=false) (hk2:(qk == 2)=false) (hk3:(qk == 3)=false) (hk:(qk == 4)=true) :
 Calls Tryz.prog 85 #[.pointer (some ⟨b,0,none⟩),.agg (rQ qc qs qk ag qv au aA).toArray,.agg (rP rc rs aC rk rf rv rg).toArray] w fun e w'=>e=.returned (.agg (rP pc ps eZ pk pf pv pg).toArray)∧nK base b g n vT vM vD vO vI L T' M' D' O' I' w w':=by
 obtain ⟨W,hW⟩:∃ W,W=((w.alloc (.cells (rQ qc qs qk ag qv au aA).toArray 50)).alloc (.cells (rP rc rs aC rk rf rv rg).toArray 57)).alloc (.cells bA.toArray 57):=⟨_,rfl⟩;obtain ⟨hQ,hR,hZ,bE,hWs⟩:=three w (.cells (rQ qc qs qk ag qv au aA).toArray 50) (.cells (rP rc rs aC rk rf rv rg).toArray 57) (.cells bA.toArray 57);rw [← hW] at hQ hR hZ bE hWs;have Ja:=ae h.lt;have HDL:=ae hdl;have dQ:Hid (Below w.heap.size w W):=bE;have HQ:Hid (W.heap[w.heap.size]? = some (.cells (rQ qc qs qk ag qv au aA).toArray 50)):=hQ;have HR:Hid (W.heap[w.heap.size+1]? = some (.cells (rP rc rs aC rk rf rv rg).toArray 57)):=hR;have HZ:Hid (W.heap[w.heap.size+1+1]? = some (.cells bA.toArray 57)):=hZ;have Ig:=ah hQ;clear h bE hQ hR hZ Ig hdl;go_enter Tryz.func85,Tryz.ntmps85
 go_upto_region 1 with fail
 rw [← hW];clear hW;have VX:W.cell? ⟨w.heap.size,2,none⟩=some (.int .u8 qk):=ah HQ.out 2;have VY:W.cell? ⟨w.heap.size,3,none⟩=some (.int .u64 ag):=ah HQ.out 3;have VZ:W.cell? ⟨w.heap.size,4,none⟩=some (.int .u64 qv):=ah HQ.out 4;have pR:Hid (W.heap.size=w.heap.size+3):=hWs;go_wp2_with (first
  | (with_reducible show cB 40 50 ..;go_must (refine dF w.heap.size 0 7 wR (rQ qc qs qk ag qv au aA) 50 HQ.out (rQ qc qs qk ag qv au aA) ?_))
  | (with_reducible show cB 41 57 ..;go_must (refine dF (w.heap.size+1) 0 7 dD (rP rc rs aC rk rf rv rg) 57 HR.out (rP rc rs aC rk rf rv rg) ?_))
  | (go_at_call 142;go_must (refine (HDL.out _ dQ.out).mono ?_;rintro e w3 ⟨rfl,hout⟩;have pQ:=ae hout;have HZ3:Hid (w3.heap[w.heap.size+1+1]? = some (.cells bA.toArray 57)):=ae (nK.keep hout HZ.out (fun e=>by have:=Ja.out _ e;omega));clear hout))
  | (with_reducible show wpList _ _ _ ({ dst:=none,op:=Op.store 57 _ _,type:=_,pos:=_,after:=_,guard:=none }::_) _ _;go_must (refine fH (w.heap.size+1+1) 0 (rP pc ps eZ pk pf pv pg) _ bA 57 HZ3.out (rP pc ps eZ pk pf pv pg) ?_;intro w4 hw ho;have xQ:Hid (w4.heap[w.heap.size+1+1]? = some (.cells (rP pc ps eZ pk pf pv pg).toArray 57)):=ae (hw);have fo:Hid (Only (w.heap.size+1+1) w3 w4):=ae (ho);clear hw ho)))
 refine bodyPost_ret (v:=.agg (rP pc ps eZ pk pf pv pg).toArray) (results_cell_row Tryz.results85 _ _ (w.heap.size+1+1) 57 _ (0,0) _ rfl xQ.out dD rfl (by kernel_rfl)) rfl ⟨rfl,?_⟩;have hws:=pR.out;exact nK.wrap dQ.out pQ.out fo.out (by omega) (by omega) Ja.out
theorem Jz {L:List ax} {j:Nat} {l:ax} (h:L[j]? = some l):qJ (L.map ax.core) (j:Int)=l.core:=by
 unfold qJ;simp [h]
theorem SS (w:World) (base b:Nat) (g n:Int) (vT vM vD vO vI:Value) (T:List Row) (M:List Pc) (D:List ak) (L:List ax) (I:List Int) (qc qs qk ag qv au aA:Int) (h:qI w base b g n vT vM vD vO vI T M D L I) (hok:ku ⟨g,n,T,M,D,L.map ax.core,I⟩) (hsm:nL 999999 ⟨g,n,T,M,D,L.map ax.core,I⟩) (hb:base≤w.heap.size) (hq:(bH.mk qc qs qk ag qv au aA).ok=true) (hwf:(bH.mk qc qs qk ag qv au aA).wf) (hk4:qk=4) :
 Calls Tryz.prog 142 #[.pointer (some ⟨b,0,none⟩),.agg (rQ qc qs qk ag qv au aA).toArray,.agg (rP qc qs ag 0 false 0 0).toArray] w fun e w'=>e=.returned (.agg (rP qc qs ag (uw ⟨g,n,T,M,D,L.map ax.core,I⟩ (bH.mk qc qs qk ag qv au aA)).k false 0 0).toArray) ∧
  nK base b g n vT vM vD vO vI L (qh ⟨g,n,T,M,D,L.map ax.core,I⟩ (bH.mk qc qs qk ag qv au aA)).T (qh ⟨g,n,T,M,D,L.map ax.core,I⟩ (bH.mk qc qs qk ag qv au aA)).M (qh ⟨g,n,T,M,D,L.map ax.core,I⟩ (bH.mk qc qs qk ag qv au aA)).D (qh ⟨g,n,T,M,D,L.map ax.core,I⟩ (bH.mk qc qs qk ag qv au aA)).O I w w':=by
 subst hk4;have hn:(L.length:Int)=n:=by simpa using hok.ol
 have adq:0≤aA:=hwf.to.1;obtain ⟨aaI,adr⟩:ag≤au∧aA<4:=by
  simp [bH.ok] at hq;omega
 obtain ⟨ma,mn,mc,hvM,BG,_⟩:=nP.Ia (l:=M) h.m.oM;have gY:∀ k,vT.ownBlock=some k→k<w.heap.size∧oK b vT vD k:=fun k hk=>⟨(h.m.oT.lt k hk).2,.inr (.inl hk)⟩
 have gU:∀ k,vD.ownBlock=some k→k<w.heap.size∧oK b vT vD k:=fun k hk=>⟨(h.m.oD.lt k hk).2,.inr (.inr hk)⟩
 have hbl:b<w.heap.size∧oK b vT vD b:=⟨(df h.cell),.inl rfl⟩;have full:om ⟨g,n,T,M,D,L.map ax.core,I⟩ (bH.mk qc qs 4 ag qv au aA)=false→(∀ W,Below w.heap.size w W→Calls Tryz.prog 179 #[.pointer (some ⟨b,0,none⟩),.agg (rQ qc qs 4 ag qv au aA).toArray] W fun e w'=>∃ v',e=.returned (.tuple #[v',.bool false])∧Below W.heap.size W w') →
  Calls Tryz.prog 142 #[.pointer (some ⟨b,0,none⟩),.agg (rQ qc qs 4 ag qv au aA).toArray,.agg (rP qc qs ag 0 false 0 0).toArray] w fun e w'=>e=.returned (.agg (rP qc qs ag (uw ⟨g,n,T,M,D,L.map ax.core,I⟩ (bH.mk qc qs 4 ag qv au aA)).k false 0 0).toArray) ∧
   nK base b g n vT vM vD vO vI L (qh ⟨g,n,T,M,D,L.map ax.core,I⟩ (bH.mk qc qs 4 ag qv au aA)).T (qh ⟨g,n,T,M,D,L.map ax.core,I⟩ (bH.mk qc qs 4 ag qv au aA)).M (qh ⟨g,n,T,M,D,L.map ax.core,I⟩ (bH.mk qc qs 4 ag qv au aA)).D (qh ⟨g,n,T,M,D,L.map ax.core,I⟩ (bH.mk qc qs 4 ag qv au aA)).O I w w':=by
  intro hf hp;have e1:uw ⟨g,n,T,M,D,L.map ax.core,I⟩ (bH.mk qc qs 4 ag qv au aA)=⟨qc,qs,ag,5,false,0,0⟩:=by unfold uw;simp [hf]
  have e2:qh ⟨g,n,T,M,D,L.map ax.core,I⟩ (bH.mk qc qs 4 ag qv au aA)=⟨g,n,T,M,nU D ⟨qc,qs,ag,5,false,0,0⟩,L.map ax.core,I⟩:=by unfold qh;rw [e1];simp [hf]
  rw [e2,e1];refine (Rt w base w.heap.size (oK b vT vD) b g n vT vM vD vO vI T D qc qs 4 ag qv au aA qc qs ag 0 false 0 0 h.Lb hok.sD hb (Nat.le_refl _) hbl gY gU (by have:=hsm.d;dsimp only at this;omega) hp).mono ?_;rintro e w' ⟨rfl,ho⟩;exact ⟨rfl,h.Ov ho⟩
 by_cases h1:aA=g
 ·refine full ?_ ?_
  ·simp [om,h1]
  ·intro W hW
   refine (Nl W b g n vT vM vD vO vI qc qs 4 ag qv au aA (af hW h.cell) (.inl h1)).mono ?_;rintro e w' ⟨rfl,hb'⟩;exact ⟨_,rfl,hb'⟩
 by_cases h2:n≤aA
 ·refine full ?_ ?_
  ·have:¬ aA<n:=by omega
   simp [om,this]
  ·intro W hW
   refine (Nl W b g n vT vM vD vO vI qc qs 4 ag qv au aA (af hW h.cell) (.inr h2)).mono ?_;rintro e w' ⟨rfl,hb'⟩;exact ⟨_,rfl,hb'⟩
 obtain ⟨j,hj⟩:∃ j:Nat,aA=(j:Int):=⟨aA.toNat,by omega⟩;have hjl:j<L.length:=by omega
 obtain ⟨l,hl⟩:∃ l,L[j]? = some l:=⟨L[j]'hjl,by simp⟩;have CX:qJ (L.map ax.core) aA=l.core:=by rw [hj];exact Jz hl
 obtain ⟨gO,cap,cur,hvO,hbg,U4,hnl,hcl,hnc,hcm,htk,_,hput⟩:=kS h.m.oO (by omega);have LQ:w.cell? ⟨gO,j*2+1,none⟩=some l.qs.val:=by rw [ah U4];simpa using qM zu (j:=1) hl rfl htk rfl
 have Jq:gO<w.heap.size:=(df U4);obtain ⟨bz,⟨eG,eP,eQ⟩,lq⟩:=l;have SV:=h.m.ln.own _ (List.mem_of_getElem? hl);have alP:eP=lq.length:=pO SV;have hlq:(qJ (L.map ax.core) aA).2.length=lq.length:=by rw [CX];simp [ax.core]
 subst hvM;subst hvO;have hd1:(aA == g)=false:=by simp [h1]
 have hd2:decide (n≤aA)=false:=by simp;omega
 have afe:¬ (au<ag)∧¬ (4≤aA):=by omega
 by_cases h3:4≤lq.length
 ·refine full ?_ ?_
  ·have:¬ lq.length<4:=by omega
   simp [om,hlq,this]
  ·intro W hW
   refine (UE W b gO j g n vT (.slice ma mn mc) vD vI L.length cap eG eP eQ qc qs 4 ag qv au aA (af hW h.cell) hd1 hd2 hj hjl ((hW.cell (p:=⟨gO,j*2+1,none⟩) Jq).trans LQ) (Nat.lt_of_lt_of_le Jq hW.size) (by omega)).mono ?_;rintro e w' ⟨rfl,hb'⟩;exact ⟨_,rfl,hb'⟩
 have hpg:∀ W,Below w.heap.size w W→Calls Tryz.prog 179 #[.pointer (some ⟨b,0,none⟩),.agg (rQ qc qs 4 ag qv au aA).toArray] W fun e w'=>∃ v',e=.returned (.tuple #[v',.bool (decide ((dG M ag au aA).length≤8))])∧nP W.heap.size w' v' (qG (dG M ag au aA))∧Below W.heap.size W w':=fun W hW =>
  UF W b gO j g n vT vD vI ma mn mc M L.length cap eG eP eQ qc qs 4 ag qv au aA (af hW h.cell) hd1 hd2 hj hjl ((hW.cell (p:=⟨gO,j*2+1,none⟩) Jq).trans LQ) (Nat.lt_of_lt_of_le Jq hW.size) (by omega) (BG.later hW) hok.FP hok.can hok.ml hwf.hi.1 hwf.hi.2 afe
 by_cases h4:(dG M ag au aA).length≤8
 ·have hf:om ⟨g,n,T,M,D,L.map ax.core,I⟩ (bH.mk qc qs 4 ag qv au aA)=true:=by
   have a1:aA<n:=by omega
   have a2:lq.length<4:=by omega
   simp [om,hlq,h1,a1,a2,h4]
  have e1:uw ⟨g,n,T,M,D,L.map ax.core,I⟩ (bH.mk qc qs 4 ag qv au aA)=⟨qc,qs,ag,2,false,0,0⟩:=by unfold uw;simp [hf]
  have e2:qh ⟨g,n,T,M,D,L.map ax.core,I⟩ (bH.mk qc qs 4 ag qv au aA)=LU ⟨g,n,T,M,D,L.map ax.core,I⟩ (bH.mk qc qs 4 ag qv au aA) (nU D ⟨qc,qs,ag,2,false,0,0⟩):=by unfold qh;rw [e1];simp [hf]
  have e3:qG (dG M ag au aA)=dG M ag au aA:=by unfold qG;rw [if_neg (by omega)]
  rw [e2,e1];refine (Ru w base b gO cap j g n vT (.slice ma mn mc) vD vI T M (dG M ag au aA) D L I bz eG eP eQ lq qc qs 4 ag qv au aA qc qs ag 0 false 0 0 h hok.sD hb (by have:=hsm.t;dsimp only at this;omega) (by have:=hsm.d;dsimp only at this;omega) hl (by omega) hj (fun W hW=>?_)).mono ?_
  ·refine (hpg W hW).mono ?_
   rintro e w' ⟨v',rfl,ho,hb'⟩;rw [e3] at ho;exact ⟨v',by simp [h4],ho,hb'⟩
  ·rintro e w' ⟨rfl,ho⟩
   refine ⟨rfl,?_⟩;have:(LU ⟨g,n,T,M,D,L.map ax.core,I⟩ (bH.mk qc qs 4 ag qv au aA) (nU D ⟨qc,qs,ag,2,false,0,0⟩)).O=(L.map ax.core).set j (IntKind.u32.wrap (bz+1),lq.map aF.core++[Ow g j bz ag au T (nU D ⟨qc,qs,ag,2,false,0,0⟩)]):=by
    unfold LU;dsimp only;rw [CX,hj];rfl
   rw [this];exact ho
 ·refine full ?_ ?_
  ·simp [om,h4]
  ·intro W hW
   refine (hpg W hW).mono ?_;rintro e w' ⟨v',rfl,ho,hb'⟩;exact ⟨v',by simp [h4],hb'⟩
theorem ads (w:World) (base b:Nat) (g n:Int) (vT vM vD vO vI:Value) (T:List Row) (M:List Pc) (D:List ak) (L:List ax) (I:List Int) (qc qs qk ag qv au aA:Int) (h:qI w base b g n vT vM vD vO vI T M D L I) (hok:ku ⟨g,n,T,M,D,L.map ax.core,I⟩) (hsm:nL 999999 ⟨g,n,T,M,D,L.map ax.core,I⟩) (hb:base≤w.heap.size) (hq:(bH.mk qc qs qk ag qv au aA).ok=true) (hwf:(bH.mk qc qs qk ag qv au aA).wf) :
 Calls Tryz.prog 85 #[.pointer (some ⟨b,0,none⟩),.agg (rQ qc qs qk ag qv au aA).toArray,.agg (rP qc qs ag 0 false 0 0).toArray] w fun e w'=>∃ pk pf pv,e=.returned (.agg (rP qc qs ag pk pf pv 0).toArray)∧uw ⟨g,n,T,M,D,L.map ax.core,I⟩ (bH.mk qc qs qk ag qv au aA)=⟨qc,qs,ag,pk,pf,pv,0⟩ ∧
  nK base b g n vT vM vD vO vI L (qh ⟨g,n,T,M,D,L.map ax.core,I⟩ (bH.mk qc qs qk ag qv au aA)).T (qh ⟨g,n,T,M,D,L.map ax.core,I⟩ (bH.mk qc qs qk ag qv au aA)).M (qh ⟨g,n,T,M,D,L.map ax.core,I⟩ (bH.mk qc qs qk ag qv au aA)).D (qh ⟨g,n,T,M,D,L.map ax.core,I⟩ (bH.mk qc qs qk ag qv au aA)).O I w w':=by
 have gY:∀ k,vT.ownBlock=some k→k<w.heap.size∧oK b vT vD k:=fun k hk=>⟨(h.m.oT.lt k hk).2,.inr (.inl hk)⟩
 have gU:∀ k,vD.ownBlock=some k→k<w.heap.size∧oK b vT vD k:=fun k hk=>⟨(h.m.oD.lt k hk).2,.inr (.inr hk)⟩
 have hbl:b<w.heap.size∧oK b vT vD b:=⟨(df h.cell),.inl rfl⟩;have GG:T.length<1000000:=by have:=hsm.t;dsimp only at this;omega
 have hnD:D.length<1000000:=by have:=hsm.d;dsimp only at this;omega
 have hkind:qk=1∨qk=2∨qk=3∨qk=4:=by
  simp [bH.ok] at hq;omega
 rcases hkind with rfl | rfl | rfl | rfl
 ·refine (acM w base w.heap.size (oK b vT vD) b g n vT vM vD vO vI T D qc qs 1 ag qv au aA qc qs ag 0 false 0 0 h.Lb hok.sT hok.sD hb (Nat.le_refl _) hbl gY gU GG hnD rfl).mono ?_
  rintro e w' ⟨rfl,ho⟩;exact ⟨_,_,_,rfl,rfl,h.Ov ho⟩
 ·refine (acO w base w.heap.size (oK b vT vD) b g n vT vM vD vO vI T D qc qs 2 ag qv au aA qc qs ag 0 false 0 0 h.Lb hok.sT hok.sD hb (Nat.le_refl _) hbl gY gU GG hnD rfl rfl).mono ?_
  rintro e w' ⟨rfl,ho⟩;exact ⟨_,_,_,rfl,rfl,h.Ov ho⟩
 ·refine (acP w base w.heap.size (oK b vT vD) b g n vT vM vD vO vI T D qc qs 3 ag qv au aA qc qs ag 0 false 0 0 h.Lb hok.sT hok.sD hb (Nat.le_refl _) hbl gY gU GG hnD rfl rfl rfl).mono ?_
  rintro e w' ⟨rfl,ho⟩;exact ⟨_,_,_,rfl,rfl,h.Ov ho⟩
 ·have e:uw ⟨g,n,T,M,D,L.map ax.core,I⟩ (bH.mk qc qs 4 ag qv au aA)=⟨qc,qs,ag,(uw ⟨g,n,T,M,D,L.map ax.core,I⟩ (bH.mk qc qs 4 ag qv au aA)).k,false,0,0⟩:=by
   unfold uw;simp;split <;> rfl
  refine (abG w base b g n vT vM vD vO vI T M D L I _ _ _ _ I qc qs 4 ag qv au aA qc qs ag 0 false 0 0 qc qs ag _ false 0 0 h (fun W hW=>SS W base b g n vT vM vD vO vI T M D L I qc qs 4 ag qv au aA (h.later hW) hok hsm (Nat.le_trans hb hW.size) hq hwf rfl) rfl rfl rfl rfl).mono ?_;rintro e' w' ⟨rfl,ho⟩;exact ⟨_,_,_,rfl,e,ho⟩
end
end Go.Proofs.YtignemioillaiaaGreat
