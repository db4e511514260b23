/- shard.Apply: what it hands back. -/
import Derived.Test.YtignemioillaiaaGreatG18
namespace Go.Proofs.YtignemioillaiaaGreat
set_option maxHeartbeats 8000000
set_option maxRecDepth 100000
section
open Go.RowKit Go.Lib
theorem four (w:World) (a b c d:Obj):((((w.alloc a).alloc b).alloc c).alloc d).heap[w.heap.size]? = some a∧((((w.alloc a).alloc b).alloc c).alloc d).heap[w.heap.size+1]? = some b∧((((w.alloc a).alloc b).alloc c).alloc d).heap[w.heap.size+1+1]? = some c∧((((w.alloc a).alloc b).alloc c).alloc d).heap[w.heap.size+1+1+1]? = some d∧Below w.heap.size w ((((w.alloc a).alloc b).alloc c).alloc d)∧((((w.alloc a).alloc b).alloc c).alloc d).heap.size=w.heap.size+4:=by
 obtain ⟨h1,h2,h3,h4,h5⟩:=three w a b c;refine ⟨?_,?_,?_,?_,ai h4 (aj _ _),by simp⟩
 ·rw [heap_alloc_old _ _ (by omega)];exact h1
 ·rw [heap_alloc_old _ _ (by omega)];exact h2
 ·rw [heap_alloc_old _ _ (by omega)];exact h3
 ·have:=heap_alloc_new (((w.alloc a).alloc b).alloc c) d
  rw [h5] at this;exact this
theorem mY {P:Program} {fn:Func} {p u:Tmp} {ty ty':TypeId} (h:fn.results = #[.cell p ty,.cell u ty']) (tmps:Array Value) (w:World) (g g':Nat) (t t':TypeId) (cs cs':Array Value) (fr fr':Nat×Nat) (d d':TypeDesc)
 (hp:tmps.getD p undef=.pointer (some ⟨g,0,none⟩)) (hg:w.heap[g]? = some (.cells cs t fr)) (hp2:tmps.getD u undef=.pointer (some ⟨g',0,none⟩)) (hg2:w.heap[g']? = some (.cells cs' t' fr'))
 (hu:P.underlying ty=some d) (hd:(match d with | .struct _ | .array _ _=>true | _=>false)=true) (hi:(P.info? ty).map (·.size)=some cs.size)
 (hu2:P.underlying ty'=some d') (hd2:(match d' with | .struct _ | .array _ _=>true | _=>false)=true) (hi2:(P.info? ty').map (·.size)=some cs'.size) :
 (results fn tmps).run P w=.ok (.tuple #[.agg cs,.agg cs']) w:=by
 have hp':tmps[p]?.getD undef=.pointer (some ⟨g,0,none⟩):=by simpa using hp
 have ahO:tmps[u]?.getD undef=.pointer (some ⟨g',0,none⟩):=by simpa using hp2
 simp [results,h,hp',ahO,asAddr,run_loadVar_row w g t ty cs fr d hg hu hd hi,run_loadVar_row w g' t' ty' cs' fr' d' hg2 hu2 hd2 hi2]
theorem NA {c d a0 a1 a2 a3 a4:Code} (hc:Tryz.f12.body=some (a0.seq (a1.seq (a2.seq (a3.seq (a4.seq (c.seq d))))))) {u0 u1 u2 u3 u8 u9 jB jg jh ji jk jl u16 mW oz lJ nC mE mF mh jC jD jw j6 ig ik iq iw u32 jm jq jr:Value} (w:World) (b4 b5 b6 b7:Nat) (g n:Int) (ta:Option Addr) (tn tc:Nat) (ma:Option Addr) (mn mc:Nat) (da:Option Addr) (dn dc:Nat) (oa:Option Addr) (on oc:Nat) (ia:Option Addr) (il ic:Nat) (pc ps eZ pk:Int) (pf:Bool) (pv pg:Int)
 (h6:w.heap[b6]? = some (.cells (rS g n ta tn tc ma mn mc da dn dc oa on oc ia il ic).toArray 31)) (h7:w.heap[b7]? = some (.cells (rP pc ps eZ pk pf pv pg).toArray 57)) (h4:w.heap[b4]? = some (.cells dS.toArray 31)) (h5:w.heap[b5]? = some (.cells bA.toArray 57))
 (_n1:¬ b4=b6) (_n2:¬ b4=b7) (_n3:¬ b5=b6) (_n4:¬ b5=b7) (n5:¬ b4=b5) (_n6:¬ b6=b4) (n7:¬ b7=b4) (n8:¬ b6=b5) (n9:¬ b7=b5) (n10:¬ b5=b4) (PP:Ending→World→Prop)
 (hQ:∀ w',av (fun k=>k=b4∨k=b5) w w'→PP (.returned (.tuple #[.agg (rS g n ta tn tc ma mn mc da dn dc oa on oc ia il ic).toArray,.agg (rP pc ps eZ pk pf pv pg).toArray])) w') {K:Act→World→Prop} (hK:∀ a w,d.wp Tryz.prog (bodyPost Tryz.prog Tryz.f12 PP) a w→K a w) :
 c.wp Tryz.prog (Exit.then K (bodyPost Tryz.prog Tryz.f12 PP)) { tmps:=(List.toArray (α:=Value) (u0::u1::u2::u3::.pointer (some ⟨b4,0,none⟩)::.pointer (some ⟨b5,0,none⟩)::.pointer (some ⟨b6,0,none⟩)::.pointer (some ⟨b7,0,none⟩)::u8::u9::jB::jg::jh::ji::jk::jl::u16::mW::oz::lJ::nC::mE::mF::mh::jC::jD::jw::j6::ig::ik::iq::iw::u32::jm::jq::jr::[])),defers:=[] } w:=by
 injection hc with k0;injection k0 with e0 k1;clear e0;injection k1 with e1 k2;clear e1;injection k2 with e2 k3;clear e2;injection k3 with e3 k4;clear e3;injection k4 with e4 k5;clear e4;injection k5 with e5 k6;subst k6;subst e5;have hc6:=ah h6;have XF:=ah h7;have hc4:=ah h4;have r9:=ah h5;have WU:=oh (Below.refl _ w) h4;have hf5:=oh (Below.refl _ w) h5;have H4:=ae h4;have H5:=ae h5;have HQ:=ae hQ;clear h4 h5 h6 h7 hQ;go_region
 go_wp2_with fail
 obtain ⟨k1,k2⟩:=j5 b4 31 (rS g n ta tn tc ma mn mc da dn dc oa on oc ia il ic) 0 dS w H4.out (by simp);simp only [World.setCells,Nat.reduceAdd] at k1 k2;generalize ((((((w.setCell ⟨b4,0,none⟩ (.int .u8 g)).setCell ⟨b4,1,none⟩ (.int .u8 n)).setCell ⟨b4,2,none⟩ (.slice ta tn tc)).setCell ⟨b4,3,none⟩ (.slice ma mn mc)).setCell ⟨b4,4,none⟩ (.slice da dn dc)).setCell ⟨b4,5,none⟩ (.slice oa on oc)).setCell ⟨b4,6,none⟩ (.slice ia il ic)=w6 at k1 k2 ⊢;obtain ⟨k3,k4⟩:=j5 b5 57 (rP pc ps eZ pk pf pv pg) 0 bA w6 ((k2.block b5 n10).trans H5.out) (by simp);simp only [World.setCells,Nat.reduceAdd] at k3 k4;generalize ((((((w6.setCell ⟨b5,0,none⟩ (.int .u8 pc)).setCell ⟨b5,1,none⟩ (.int .u32 ps)).setCell ⟨b5,2,none⟩ (.int .u64 eZ)).setCell ⟨b5,3,none⟩ (.int .u8 pk)).setCell ⟨b5,4,none⟩ (.bool pf)).setCell ⟨b5,5,none⟩ (.int .u64 pv)).setCell ⟨b5,6,none⟩ (.int .u8 pg)=w7 at k3 k4 ⊢;have hA:w7.drew.heap[b4]? = some (.cells (rS g n ta tn tc ma mn mc da dn dc oa on oc ia il ic).toArray 31):=(k4.block b4 n5).trans k1;have hD:w7.drew.heap[b5]? = some (.cells (rP pc ps eZ pk pf pv pg).toArray 57):=k3;refine bodyPost_ret (v:=.tuple #[.agg (rS g n ta tn tc ma mn mc da dn dc oa on oc ia il ic).toArray,.agg (rP pc ps eZ pk pf pv pg).toArray]) (mY Tryz.results12 _ _ b4 b5 _ _ _ _ (0,0) (0,0) _ _ rfl hA rfl hD fE rfl (by kernel_rfl) dD rfl (by kernel_rfl)) rfl ?_;exact HQ.out _ ((av.only k2 (.inl rfl)).trans (av.only (k4.trans (Only.drew _ _)) (.inr rfl)))
end
section
open Go.RowKit

theorem Pv {lo hi:Int} {rows:List Row} {k:Nat} {x:Row} (hx:rows[k]? = some x) (h:(!decide (lo≤x.key))=true∨(!decide (x.key≤hi))=true):rowAt lo hi rows k=false:=by
 unfold rowAt;rw [hx];rcases h with h | h <;> simp at h <;> simp <;> intros <;> omega
theorem V7 {lo hi:Int} {rows:List Row} {k:Nat} {x y:Row} (hx:rows[k]? = some x) (h0:0<k) (hy:rows[k - 1]? = some y) (h:x.key≤y.key):rowAt lo hi rows k=false:=by
 have:(k == 0)=false:=by simp;omega
 unfold rowAt;rw [hx];simp [hy,this];intros;omega
theorem NB {lo hi:Int} {rows:List Row} {k:Nat} {x:Row} (hx:rows[k]? = some x) (h:(!decide (lo≤x.key))=false∧(!decide (x.key≤hi))=false) (hy:k=0∨∃ y,rows[k - 1]? = some y∧y.key<x.key):rowAt lo hi rows k=true:=by
 unfold rowAt;rw [hx];simp at h;rcases hy with rfl | ⟨y,hy,hlt⟩
 ·simp [h]
 ·simp [h,hy,hlt]
theorem Zx (aM bG aV aP bg:Int) (bZ:Option Addr) (bR cK:Nat) (bX:Option Addr) (bN bY:Nat) (bF:List Row) (w:World) (h:bQ w.heap.size w ⟨bZ,bR,cK⟩ 2 (bF.map Row.cells)) :
 Calls Tryz.prog 144 #[.agg (rR aM bG aV aP bg bZ bR cK bX bN bY).toArray] w fun e w'=>e=.returned (.bool (uV aP bg bF))∧Below w.heap.size w w':=by
 have hlen:bR=bF.length:=by simpa using h.len
 have hlm:bR≤maxLen:=Nat.le_trans h.le h.max;unfold maxLen at hlm;have HL:Hid (bR=bF.length):=hlen;clear hlen;go_enter Tryz.func144,Tryz.ntmps144
 go_wp2_with fail
 ·go_ret
  exact ⟨dA (by have:=HL.out;simp [uV];omega),((Below.refl _ _).alloc (Nat.le_refl _) _)⟩
 ·generalize hW:w.alloc (Obj.cells (rR aM bG aV aP bg bZ bR cK bX bN bY).toArray 52)=W
  have hW0:W.heap[w.heap.size]? = some (Obj.cells (rR aM bG aV aP bg bZ bR cK bX bN bY).toArray 52):=by rw [← hW];exact heap_alloc_new w _
  have hW1:Below w.heap.size w W:=by rw [← hW];exact (Below.refl _ _).alloc (Nat.le_refl _) _
  have hW2:W.heap.size=w.heap.size+1:=by rw [← hW];simp
  clear hW;go_loopw [12] (fun i wr=>∃ k:Nat,k≤bR∧i=.int .i64 k∧(List.range k).all (rowAt aP bg bF)=true∧Below (w.heap.size+1) W wr) (fun i _=>bR - (intOf i).toNat)
  case atStart=>exact ⟨0,Nat.zero_le _,rfl,by simp,Below.refl _ _⟩
  case round =>
   obtain ⟨k,hk,rfl,hall,hnx⟩:=hrel;have hB:=WG hW0 hnx;have hsz:w.heap.size<wr.heap.size:=by have:=hnx.size;omega
   have HA:Hid ((List.range k).all (rowAt aP bg bF)=true):=hall;clear hall;by_cases hlt:k<bR
   ·obtain ⟨x,hx⟩:∃ x,bF[k]? = some x:=⟨bF[k]'(by rw [← HL.out];exact hlt),by simp⟩
    have hS:=h.below (hW1.trans (hnx.mono (by omega))) (Nat.le_refl _);obtain ⟨b,off,ha,j4,hc0,hc1⟩:=hS.at2 hx;obtain rfl:bZ=some ⟨b,off,none⟩:=ha;have HX:Hid (bF[k]? = some x):=hx;clear hx;have hbz:b<wr.heap.size:=by omega
    by_cases hk0:0<k
    ·obtain ⟨y,hy⟩:∃ y,bF[k - 1]? = some y:=⟨bF[k - 1]'(by rw [← HL.out];omega),by simp⟩
     obtain ⟨b',off',ha',_,hd0,_⟩:=hS.at2 hy;simp only [Option.some.injEq,Addr.mk.injEq,and_true] at ha';obtain ⟨rfl,rfl⟩:=ha';have HY:Hid (bF[k - 1]? = some y):=hy;clear hy;go_wp2_with (first | (go_at_call 182;refine (Dk _ _ _ _ _ _ _ _ _ _ _ _ _).mono ?_;rintro e w1 ⟨rfl,hbel⟩;have hl:Below wr.heap.size wr w1:=ai (aj _ _) hbel;have hB1:∀ o,w1.cell? ⟨w.heap.size,o,none⟩=_:=fun o=>(bU hl hsz o).trans (hB o);have hX1:=blk hbel (heap_alloc_new wr _);have hd1:=(bU hl hbz _).trans hd0))
     ·go_ret
      refine ⟨dA (zy (k:=k) (by rw [← HL.out];exact hlt) (Pv HX.out (by assumption))).symm,hW1.trans ((hnx.mono (by omega)).trans (hl.mono (by omega)))⟩
     ·go_quiet (fail)
      go_wp2
      ·go_ret
       exact ⟨dA (zy (k:=k) (by rw [← HL.out];exact hlt) (V7 HX.out hk0 HY.out (by assumption))).symm,below_drewN (hW1.trans ((hnx.mono (by omega)).trans (hl.mono (by omega)))) _⟩
      ·go_roundw
       case rel=>exact ⟨k+1,by omega,by go_num,sH HA.out (NB HX.out (by assumption) (.inr ⟨_,HY.out,by assumption⟩)),below_drewN (hnx.trans (hl.mono (by omega))) _⟩
       case measure=>simp [intOf];omega
    ·have hd:decide ((0:Int)<(k:Int))=false:=by simp;omega
     go_wp2_with (first | (go_at_call 182;refine (Dk _ _ _ _ _ _ _ _ _ _ _ _ _).mono ?_;rintro e w1 ⟨rfl,hbel⟩;have hl:Below wr.heap.size wr w1:=ai (aj _ _) hbel;have hB1:∀ o,w1.cell? ⟨w.heap.size,o,none⟩=_:=fun o=>(bU hl hsz o).trans (hB o);have hX1:=blk hbel (heap_alloc_new wr _)))
     ·go_ret
      refine ⟨dA (zy (k:=k) (by rw [← HL.out];exact hlt) (Pv HX.out (by assumption))).symm,hW1.trans ((hnx.mono (by omega)).trans (hl.mono (by omega)))⟩
     ·go_quiet (fail)
      go_wp2
      go_roundw
      case rel=>exact ⟨k+1,by omega,by go_num,sH HA.out (NB HX.out (by assumption) (.inl (by omega))),below_drewN (hnx.trans (hl.mono (by omega))) _⟩
      case measure=>simp [intOf];omega
   ·go_wp2
    go_ret
    obtain rfl:k=bR:=by omega
    exact ⟨dA (by have:=HL.out;have h2:=HA.out;rw [this] at h2;simp [uV,h2];omega),hW1.trans (hnx.mono (by omega))⟩
theorem Pw {lo hi:Int} {bP:List ak} {k:Nat} {x:ak} (hx:bP[k]? = some x) (h:(!decide (lo≤x.key))=true∨(!decide (x.key≤hi))=true):qV lo hi bP k=false:=by
 unfold qV;rw [hx];rcases h with h | h <;> simp at h <;> simp <;> intros <;> omega
theorem Tc {lo hi:Int} {bP:List ak} {k:Nat} {x:ak} (hx:bP[k]? = some x) (h:¬ kept x.k=true):qV lo hi bP k=false:=by
 unfold qV;rw [hx];simp at h;simp [h]
theorem Px {lo hi:Int} {bP:List ak} {k:Nat} {x:ak} (hx:bP[k]? = some x) (h:¬ x.ok=true):qV lo hi bP k=false:=by
 unfold qV;rw [hx];simp at h;simp [h]
theorem V8 {lo hi:Int} {bP:List ak} {k:Nat} {x y:ak} (hx:bP[k]? = some x) (h0:0<k) (hy:bP[k - 1]? = some y) (h:ahead y x=false):qV lo hi bP k=false:=by
 have:(k == 0)=false:=by simp;omega
 unfold qV;rw [hx];simp [hy,this,h]
theorem NC {lo hi:Int} {bP:List ak} {k:Nat} {x:ak} (hx:bP[k]? = some x) (h1:x.ok=true) (h2:kept x.k=true) (h:(!decide (lo≤x.key))=false∧(!decide (x.key≤hi))=false) (hy:k=0∨∃ y,bP[k - 1]? = some y∧ahead y x=true):qV lo hi bP k=true:=by
 unfold qV;rw [hx];simp at h;rcases hy with rfl | ⟨y,hy,hlt⟩
 ·simp [h,h1,h2]
 ·simp [h,h1,h2,hy,hlt]
theorem Zy (aM bG aV aP bg:Int) (bZ:Option Addr) (bR cK:Nat) (bX:Option Addr) (bN bY:Nat) (bC:List ak) (w:World) (h:bQ w.heap.size w ⟨bX,bN,bY⟩ 7 (bC.map ak.cells)) :
 Calls Tryz.prog 145 #[.agg (rR aM bG aV aP bg bZ bR cK bX bN bY).toArray] w fun e w'=>e=.returned (.bool (yx aP bg bC))∧Below w.heap.size w w':=by
 have hlen:bN=bC.length:=by simpa using h.len
 have hlm:bN≤maxLen:=Nat.le_trans h.le h.max;unfold maxLen at hlm;have HL:Hid (bN=bC.length):=hlen;clear hlen;go_enter Tryz.func145,Tryz.ntmps145
 go_wp2_with fail
 ·go_ret
  exact ⟨dA (by have:=HL.out;simp [yx];omega),((Below.refl _ _).alloc (Nat.le_refl _) _)⟩
 ·generalize hW:w.alloc (Obj.cells (rR aM bG aV aP bg bZ bR cK bX bN bY).toArray 52)=W
  have hW0:W.heap[w.heap.size]? = some (Obj.cells (rR aM bG aV aP bg bZ bR cK bX bN bY).toArray 52):=by rw [← hW];exact heap_alloc_new w _
  have hW1:Below w.heap.size w W:=by rw [← hW];exact (Below.refl _ _).alloc (Nat.le_refl _) _
  have hW2:W.heap.size=w.heap.size+1:=by rw [← hW];simp
  clear hW;go_loopw [12] (fun i wr=>∃ k:Nat,k≤bN∧i=.int .i64 k∧(List.range k).all (qV aP bg bC)=true∧Below (w.heap.size+1) W wr) (fun i _=>bN - (intOf i).toNat)
  case atStart=>exact ⟨0,Nat.zero_le _,rfl,by simp,Below.refl _ _⟩
  case round =>
   obtain ⟨k,hk,rfl,hall,hnx⟩:=hrel;have hB:=WG hW0 hnx;have hsz:w.heap.size<wr.heap.size:=by have:=hnx.size;omega
   have HA:Hid ((List.range k).all (qV aP bg bC)=true):=hall;clear hall;by_cases hlt:k<bN
   ·obtain ⟨x,hx⟩:∃ x,bC[k]? = some x:=⟨bC[k]'(by rw [← HL.out];exact hlt),by simp⟩
    have hS:=h.below (hW1.trans (hnx.mono (by omega))) (Nat.le_refl _);obtain ⟨b,off,ha,j4,hc0,hc1,hc2,hc3,hc4,r9,hc6⟩:=hS.KR hx;obtain rfl:bX=some ⟨b,off,none⟩:=ha;have HX:Hid (bC[k]? = some x):=hx;clear hx;have hbz:b<wr.heap.size:=by omega
    obtain ⟨xc,xs,az,xk,xf,xv,xg⟩:=x;by_cases hk0:0<k
    ·obtain ⟨j,rfl⟩:∃ j,k=j+1:=⟨k - 1,by omega⟩
     obtain ⟨y,hy⟩:∃ y,bC[j]? = some y:=⟨bC[j]'(by rw [← HL.out];omega),by simp⟩;have hj1:(0:Int)≤(j:Int):=by omega
     have hj2:(j:Int)<(bN:Int):=by omega
     have hj3:j<bN:=by omega
     have U6:IntKind.i64.wrap (j:Int)=(j:Int):=IntWalk.i64_in _ ⟨by omega,by omega⟩;obtain ⟨b',off',ha',_,hd0,hd1,hd2,hd3,hd4,hd5,hd6⟩:=hS.KR hy;simp only [Option.some.injEq,Addr.mk.injEq,and_true] at ha';obtain ⟨rfl,rfl⟩:=ha';have HY:Hid (bC[j]? = some y):=hy;clear hy;obtain ⟨yc,ys,dM,yk,yf,yv,yg⟩:=y;dsimp only at hc0 hc1 hc2 hc3 hc4 r9 hc6 hd0 hd1 hd2 hd3 hd4 hd5 hd6;go_wp2_with (first | (go_at_call 183;refine (Po _ _ _ _ _ _ _ _).mono ?_;rintro e w1 ⟨rfl,hbel⟩;have hl:Below wr.heap.size wr w1:=ai (aj _ _) hbel;have hB1:∀ o,w1.cell? ⟨w.heap.size,o,none⟩=_:=fun o=>(bU hl hsz o).trans (hB o);have hX1:=blk hbel (heap_alloc_new wr _);have hz1:wr.heap.size<w1.heap.size:=(by have:=hbel.size;simp at this;omega)) | (go_at_call 184;refine (GL _ _).mono ?_;rintro e w1 ⟨rfl,rfl⟩) | (go_at_call 182;refine (Dk _ _ _ _ _ _ _ _ _ _ _ _ _).mono ?_;rintro e w2 ⟨rfl,Cb⟩;have hl2:Below wr.heap.size wr w2:=ai hl Cb;have hB2:∀ o,w2.cell? ⟨w.heap.size,o,none⟩=_:=fun o=>(bU hl2 hsz o).trans (hB o);have hX2:∀ o,w2.cell? ⟨wr.heap.size,o,none⟩=_:=fun o=>(bU Cb hz1 o).trans (hX1 o);have he0:=(bU hl2 hbz _).trans hd0;have he1:=(bU hl2 hbz _).trans hd1;have he2:=(bU hl2 hbz _).trans hd2;have he3:=(bU hl2 hbz _).trans hd3;have he4:=(bU hl2 hbz _).trans hd4;have he5:=(bU hl2 hbz _).trans hd5;have he6:=(bU hl2 hbz _).trans hd6))
     ·go_ret;exact ⟨dA (oP (k:=j+1) (by rw [← HL.out];exact hlt) (Pw HX.out (by assumption))).symm,hW1.trans ((hnx.mono (by omega)).trans (hl2.mono (by omega)))⟩
     ·go_region_with (first | (go_at_call 185;refine (Xo _ _ _ _ _ _ _ _ _ _ _ _ _ _ _).mono ?_;rintro e w3 ⟨rfl,kT⟩))
      all_goals go_wp2
      all_goals first | (go_ret;exact ⟨dA (oP (k:=j+1) (by rw [← HL.out];exact hlt) (V8 HX.out hk0 HY.out (by first | assumption | simp_all))).symm,hW1.trans ((hnx.mono (by omega)).trans ((hl2.drew.trans (Below.mono ‹Below (World.drew _).heap.size _ _› hl2.size)).mono (by omega)))⟩) | skip
      all_goals go_roundw
      all_goals first | exact ⟨j+1+1,by omega,by go_num,sH HA.out (NC HX.out (by assumption) (by assumption) (by assumption) (.inr ⟨_,HY.out,by first | assumption | simp_all⟩)),hnx.trans ((hl2.drew.trans (Below.mono ‹Below (World.drew _).heap.size _ _› hl2.size)).mono (by omega))⟩ | (simp [intOf];omega) | skip
      all_goals go_ways
     ·go_ret;exact ⟨dA (oP (k:=j+1) (by rw [← HL.out];exact hlt) (Tc HX.out (by assumption))).symm,hW1.trans ((hnx.mono (by omega)).trans (hl.mono (by omega)))⟩
     ·go_ret;exact ⟨dA (oP (k:=j+1) (by rw [← HL.out];exact hlt) (Px HX.out (by assumption))).symm,hW1.trans ((hnx.mono (by omega)).trans (hl.mono (by omega)))⟩
    ·have hd:decide ((0:Int)<(k:Int))=false:=by simp;omega
     dsimp only at hc0 hc1 hc2 hc3 hc4 r9 hc6;go_wp2_with (first | (go_at_call 183;refine (Po _ _ _ _ _ _ _ _).mono ?_;rintro e w1 ⟨rfl,hbel⟩;have hl:Below wr.heap.size wr w1:=ai (aj _ _) hbel;have hB1:∀ o,w1.cell? ⟨w.heap.size,o,none⟩=_:=fun o=>(bU hl hsz o).trans (hB o);have hX1:=blk hbel (heap_alloc_new wr _);have hz1:wr.heap.size<w1.heap.size:=(by have:=hbel.size;simp at this;omega)) | (go_at_call 184;refine (GL _ _).mono ?_;rintro e w1 ⟨rfl,rfl⟩) | (go_at_call 182;refine (Dk _ _ _ _ _ _ _ _ _ _ _ _ _).mono ?_;rintro e w2 ⟨rfl,Cb⟩;have hl2:Below wr.heap.size wr w2:=ai hl Cb;have hB2:∀ o,w2.cell? ⟨w.heap.size,o,none⟩=_:=fun o=>(bU hl2 hsz o).trans (hB o);have hX2:∀ o,w2.cell? ⟨wr.heap.size,o,none⟩=_:=fun o=>(bU Cb hz1 o).trans (hX1 o)))
     ·go_ret;exact ⟨dA (oP (k:=k) (by rw [← HL.out];exact hlt) (Pw HX.out (by assumption))).symm,hW1.trans ((hnx.mono (by omega)).trans (hl2.mono (by omega)))⟩
     ·go_quiet (fail)
      go_wp2
      go_roundw
      case rel=>exact ⟨k+1,by omega,by go_num,sH HA.out (NC HX.out (by assumption) (by assumption) (by assumption) (.inl (by omega))),below_drewN (hnx.trans (hl2.mono (by omega))) _⟩
      case measure=>simp [intOf];omega
     ·go_ret;exact ⟨dA (oP (k:=k) (by rw [← HL.out];exact hlt) (Tc HX.out (by assumption))).symm,hW1.trans ((hnx.mono (by omega)).trans (hl.mono (by omega)))⟩
     ·go_ret;exact ⟨dA (oP (k:=k) (by rw [← HL.out];exact hlt) (Px HX.out (by assumption))).symm,hW1.trans ((hnx.mono (by omega)).trans (hl.mono (by omega)))⟩
   ·go_wp2
    go_ret
    obtain rfl:k=bN:=by omega
    exact ⟨dA (by have:=HL.out;have h2:=HA.out;rw [this] at h2;simp [yx,h2];omega),hW1.trans (hnx.mono (by omega))⟩
end
section
open Go.RowKit Go.Lib
theorem DU (aM bG aV aP bg:Int) (bZ:Option Addr) (bR cK:Nat) (bX:Option Addr) (bN bY:Nat) (bF:List Row) (bC:List ak) (w:World) (h1:bQ w.heap.size w ⟨bZ,bR,cK⟩ 2 (bF.map Row.cells)) (h2:bQ w.heap.size w ⟨bX,bN,bY⟩ 7 (bC.map ak.cells)) :
 Calls Tryz.prog 86 #[.agg (rR aM bG aV aP bg bZ bR cK bX bN bY).toArray] w fun e w'=>e=.returned (.bool (aF.mk aM bG aV aP bg ⟨bZ,bR,cK⟩ ⟨bX,bN,bY⟩ bF bC).ok)∧Below w.heap.size w w':=by
 have hr1:bQ (w.alloc (.cells (rR aM bG aV aP bg bZ bR cK bX bN bY).toArray 52)).heap.size (w.alloc (.cells (rR aM bG aV aP bg bZ bR cK bX bN bY).toArray 52)) ⟨bZ,bR,cK⟩ 2 (bF.map Row.cells):=h1.later (aj _ _);go_enter Tryz.func86,Tryz.ntmps86
 go_wp2_with (first | (go_at_call 133;refine (Jt _ _).mono ?_;rintro e w1 ⟨rfl,rfl⟩) | (go_at_call 144;refine (Zx _ _ _ _ _ _ _ _ _ _ _ bF _ hr1).mono ?_;rintro e w1 ⟨rfl,hbel⟩;have hB:=blk hbel (heap_alloc_new w _);have hd1:=h2.later (ai (aj w _) hbel)) | (go_at_call 145;refine (Zy _ _ _ _ _ _ _ _ _ _ _ bC _ (by assumption)).mono ?_;rintro e w2 ⟨rfl,Cb⟩))
 all_goals go_ret
 all_goals refine ⟨dA ?_,?_⟩
 all_goals first | exact ai (ai (aj _ _) ‹Below (World.alloc _ _).heap.size _ _›) ‹_› | exact ai (aj _ _) ‹_› | exact aj _ _ | skip
 all_goals simp_all [aF.ok]
 all_goals omega
def oL (g n:Int) (I:List Int) (r:Rg):Bool:=r.dst == g && !(r.src == g) && decide (r.src<n) && r.seq == IntKind.u32.wrap (((I[r.src.toNat]?).getD 0)+1)
theorem Dl (w:World) (b gI _j cap il:Nat) (g n iv:Int) (vT vM vD vO:Value) (aM bG aV aP bg:Int) (bZ:Option Addr) (bR cK:Nat) (bX:Option Addr) (bN bY:Nat) (bF:List Row) (bC:List ak) (I:List Int) (hc:w.heap[b]? = some (.cells #[.int .u8 g,.int .u8 n,vT,vM,vD,vO,.slice (some ⟨gI,0,none⟩) il cap] 31))
 (hj:0≤aM) (hn:aM<n→aM.toNat<il∧I[aM.toNat]? = some iv∧w.cell? ⟨gI,aM.toNat,none⟩=some (.int .u32 iv)) (hgI:gI<w.heap.size) :
 Calls Tryz.prog 87 #[.pointer (some ⟨b,0,none⟩),.agg (rR aM bG aV aP bg bZ bR cK bX bN bY).toArray] w fun e w'=>e=.returned (.bool (oL g n I (aF.mk aM bG aV aP bg ⟨bZ,bR,cK⟩ ⟨bX,bN,bY⟩ bF bC).core))∧Below w.heap.size w w':=by
 obtain ⟨W,hW⟩:∃ W,W=w.alloc (.cells (rR aM bG aV aP bg bZ bR cK bX bN bY).toArray 52):=⟨_,rfl⟩;have fP:W.heap[w.heap.size]? = some (.cells (rR aM bG aV aP bg bZ bR cK bX bN bY).toArray 52):=by rw [hW];exact heap_alloc_new w _
 have bE:Below w.heap.size w W:=by rw [hW];exact aj w _
 have hr0:W.cell? ⟨w.heap.size,0,none⟩=some (.int .u8 aM):=ah fP 0;have hr1:W.cell? ⟨w.heap.size,1,none⟩=some (.int .u8 bG):=ah fP 1;have hr2:W.cell? ⟨w.heap.size,2,none⟩=some (.int .u32 aV):=ah fP 2;have hs0:W.cell? ⟨b,0,none⟩=some (.int .u8 g):=ah (af bE hc) 0;have hs1:W.cell? ⟨b,1,none⟩=some (.int .u8 n):=ah (af bE hc) 1;have hs6:W.cell? ⟨b,6,none⟩=some (.slice (some ⟨gI,0,none⟩) il cap):=ah (af bE hc) 6;by_cases h1:bG=g
 ·have hd1:(bG == g)=true:=by simp [h1]
  by_cases h2:aM=g
  ·have hd2:(aM != g)=false:=by simp [h2]
   have HE:Hid (oL g n I (aF.mk aM bG aV aP bg ⟨bZ,bR,cK⟩ ⟨bX,bN,bY⟩ bF bC).core=false):=by show _=_;simp [oL,aF.core,h2]
   clear hc fP hn h1 h2;go_enter Tryz.func87,Tryz.ntmps87
   go_wp2_with fail
   rw [← hW];clear hW;go_quiet (fail)
   go_wp2
   go_ret
   exact ⟨by rw [HE.out];rfl,below_drewN bE _⟩
  ·have hd2:(aM != g)=true:=by simp [h2]
   have adB:(aM == g)=false:=by simp [h2]
   by_cases h3:aM<n
   ·have hd3:decide (aM<n)=true:=by simp [h3]
    obtain ⟨k1,k2,k3⟩:=hn h3;obtain ⟨t,ht⟩:∃ t:Nat,aM=(t:Int):=⟨aM.toNat,by omega⟩;subst ht;have htn:(t:Int).toNat=t:=by simp
    rw [htn] at k1 k2 k3;have hi2:(t:Int)<(il:Int):=by omega
    have hi1:(0:Int)≤(t:Int):=by omega
    have hl1:W.cell? ⟨gI,t,none⟩=some (.int .u32 iv):=(bE.cell (p:=⟨gI,t,none⟩) hgI).trans k3;have HE:Hid (oL g n I (aF.mk t bG aV aP bg ⟨bZ,bR,cK⟩ ⟨bX,bN,bY⟩ bF bC).core=(aV == IntKind.u32.wrap (iv+1))):=by
     show _=_;unfold oL aF.core;dsimp only;rw [htn,k2,hd1,adB,hd3];simp
    clear hc fP hn h1 h2 h3 k1 k2 k3 htn adB;go_enter Tryz.func87,Tryz.ntmps87
    clear hj;go_wp2_with fail
    rw [← hW];clear hW;go_quiet (fail)
    go_wp2
    go_ret
    exact ⟨by rw [HE.out];rfl,below_drewN bE _⟩
   ·have hd3:decide (aM<n)=false:=by simp;omega
    have HE:Hid (oL g n I (aF.mk aM bG aV aP bg ⟨bZ,bR,cK⟩ ⟨bX,bN,bY⟩ bF bC).core=false):=by show _=_;simp [oL,aF.core,h3]
    clear hc fP hn h1 h2 h3;go_enter Tryz.func87,Tryz.ntmps87
    go_wp2_with fail
    rw [← hW];clear hW;go_quiet (fail)
    go_wp2
    go_ret
    exact ⟨by rw [HE.out];rfl,below_drewN bE _⟩
 ·have hd1:(bG == g)=false:=by simp [h1]
  have HE:Hid (oL g n I (aF.mk aM bG aV aP bg ⟨bZ,bR,cK⟩ ⟨bX,bN,bY⟩ bF bC).core=false):=by show _=_;simp [oL,aF.core,h1]
  clear hc fP hn h1;go_enter Tryz.func87,Tryz.ntmps87
  go_wp2_with fail
  rw [← hW];clear hW;go_quiet (fail)
  go_wp2
  go_ret
  exact ⟨by rw [HE.out];rfl,below_drewN bE _⟩
theorem adC {α:Type} {w:World} {size:Nat} {cf:α→List Value} {t:TypeId} {a1 a2 a3:Option Addr} {n1 n2 n3 c1 c2 c3:Nat} {x1 x2 x3:List α} {b1 b3:Nat} {e:TypeId} (h1:w.ownsRow b1 e size (.slice a1 n1 c1) x1.length (x1.map cf).flatten) (h2:bQ w.heap.size w ⟨a2,n2,c2⟩ size (x2.map cf)) (h2n:a2=none→c2=0) (h3:w.ownsRow b3 e size (.slice a3 n3 c3) x3.length (x3.map cf).flatten) (hf:∀ y,(cf y).length=size) :
 RD (w.alloc (.cells #[.slice a1 n1 c1,.slice a2 n2 c2,.slice a3 n3 c3] t)) w.heap.size size cf [⟨a1,n1,c1⟩,⟨a2,n2,c2⟩,⟨a3,n3,c3⟩] [x1,x2,x3]:=by
 have key:∀ {a:Option Addr} {n c:Nat} {x:List α} {b:Nat},w.ownsRow b e size (.slice a n c) x.length (x.map cf).flatten→bQ (w.alloc (.cells #[.slice a1 n1 c1,.slice a2 n2 c2,.slice a3 n3 c3] t)).heap.size (w.alloc (.cells #[.slice a1 n1 c1,.slice a2 n2 c2,.slice a3 n3 c3] t)) ⟨a,n,c⟩ size (x.map cf)∧(a=none→c=0):=by
  intro a n c x b h;obtain ⟨a',n',c',e',hin,hnil⟩:=qj (w:=w.alloc (.cells #[.slice a1 n1 c1,.slice a2 n2 c2,.slice a3 n3 c3] t)) (xs:=x.map cf) (by rw [List.length_map];exact ay h (aj w _)) (by intro y hy;obtain ⟨r,_,rfl⟩:=List.mem_map.1 hy;exact hf r);cases e'
  exact ⟨hin,hnil⟩
 refine ⟨fun i s hs=>?_,by simp,rfl,fun i s x hs hx=>?_⟩
 ·rw [ah (heap_alloc_new w _)]
  match i,hs with
  | 0,hs=>simp at hs;subst hs;rfl
  | 1,hs=>simp at hs;subst hs;rfl
  | 2,hs=>simp at hs;subst hs;rfl
 ·match i,hs,hx with
  | 0,hs,hx=>simp at hs hx;subst hs;subst hx;exact key h1
  | 1,hs,hx=>simp at hs hx;subst hs;subst hx;exact ⟨h2.later (aj w _),h2n⟩
  | 2,hs,hx=>simp at hs hx;subst hs;subst hx;exact key h3
theorem Td {α:Type} {w':World} {B B' size:Nat} {e:TypeId} {cf:α→List Value} {v:Value} {x1 x2 x3:List α} (h:w'.ownsRow B' e size v [x1,x2,x3].flatten.length ([x1,x2,x3].flatten.map cf).flatten) (hb:B≤B'):w'.ownsRow B e size v (x1++(x2++x3)).length ((x1++(x2++x3)).map cf).flatten:=by
 have e1:[x1,x2,x3].flatten=x1++(x2++x3):=by simp
 rw [e1] at h;exact dE h hb
theorem zF {A:Nat→Prop} {w w':World} {B size:Nat} {s:Sl} {xs:List (List Value)} (h:bQ B w s size xs) (hc:av A w w') (hB:B≤w.heap.size) (hA:∀ k,k<B→¬ A k):bQ B w' s size xs :=
 h.below (hc.below (B:=B) (fun k hk=>⟨Nat.lt_of_lt_of_le hk hB,hA k hk⟩)) (Nat.le_refl _)
theorem Dr {w:World} {B size:Nat} {s:Sl} {xs:List (List Value)} (h:bQ B w s size xs) (hB:B≤w.heap.size):bQ w.heap.size w s size xs :=
 ⟨h.len,h.le,h.max,fun h0=>by obtain ⟨b,off,ha,hlt,hc⟩:=h.at' h0;exact ⟨b,off,ha,Nat.lt_of_lt_of_le hlt hB,hc⟩⟩
structure ahP (w w':World) (b:Nat) (g n aP bg:Int) (vM vO vI dN eY:Value) (T bF:List Row) (D bC:List ak):Prop where
 cell:w'.heap[b]? = some (.cells (rW g n dN vM eY vO vI).toArray 31)
 oT:w'.ownsRow w.heap.size 128 2 dN (sB (fun x:Row=>x.key) aP T++(bF++sA (fun x:Row=>x.key) aP bg T)).length ((sB (fun x:Row=>x.key) aP T++(bF++sA (fun x:Row=>x.key) aP bg T)).map Row.cells).flatten
 oD:w'.ownsRow w.heap.size 57 7 eY (sB (fun x:ak=>x.key) aP D++(bC++sA (fun x:ak=>x.key) aP bg D)).length ((sB (fun x:ak=>x.key) aP D++(bC++sA (fun x:ak=>x.key) aP bg D)).map ak.cells).flatten
 dX:av (fun k=>k=b) w w'
theorem ahQ {c a0 a1 a2 a3 a4 a5:Code} (hc:Tryz.f45.body=some (a0.seq (a1.seq (a2.seq (a3.seq (a4.seq (a5.seq c))))))) {u1 u2 u4 u5 u6 u7 u8 u9 jB jg jh ji jk jl u16 mW oz lJ nC mE mF mh jC jD jw j6 ig ik iq iw u32 jm jq jr jE jF jG jH jI jJ jK jL jM jN jO jP jQ jR jS jT jU jV jW jX jY kv ky kz kC kD kE kF u64 kG kH kg ko kI kJ kK kL kM kN kP kQ kR lK lL lN lQ lT lU lV lW lX lY lZ l7 l8 l9 mf mg mi mI:Value} (w:World) (base b R0:Nat) (g n:Int) (vM vO vI:Value) (ta:Option Addr) (tn tc:Nat) (da:Option Addr) (dn dc:Nat) (T:List Row) (D:List ak) (aM bG aV aP bg:Int) (bZ:Option Addr) (bR cK:Nat) (bX:Option Addr) (bN bY:Nat) (bF:List Row) (bC:List ak)
 (hC:w.heap[b]? = some (.cells #[.int .u8 g,.int .u8 n,.slice ta tn tc,vM,.slice da dn dc,vO,vI] 31)) (hR:w.heap[R0]? = some (.cells (rR aM bG aV aP bg bZ bR cK bX bN bY).toArray 52)) (hT:w.ownsRow base 128 2 (.slice ta tn tc) T.length (T.map Row.cells).flatten) (hD:w.ownsRow base 57 7 (.slice da dn dc) D.length (D.map ak.cells).flatten)
 (hr:bQ base w ⟨bZ,bR,cK⟩ 2 (bF.map Row.cells)) (hrn:bZ=none→cK=0) (hd:bQ base w ⟨bX,bN,bY⟩ 7 (bC.map ak.cells)) (hdn:bX=none→bY=0) (hb:base≤b) (hbw:base≤w.heap.size) (GG:T.length<1000000) (hnD:D.length<1000000) (hn1:T.length+bF.length<1000000) (hn2:D.length+bC.length<1000000) (Q:World→Prop)
 (hQ:∀ (w':World) (dN eY:Value),ahP w w' b g n aP bg vM vO vI dN eY T bF D bC→Q w') :
 c.wp Tryz.prog (bodyPost Tryz.prog Tryz.f45 fun e w'=>e=.returned (.tuple #[])∧Q w') { tmps:=(List.toArray (α:=Value) (.pointer (some ⟨b,0,none⟩)::u1::u2::.pointer (some ⟨R0,0,none⟩)::u4::u5::u6::u7::u8::u9::jB::jg::jh::ji::jk::jl::u16::mW::oz::lJ::nC::mE::mF::mh::jC::jD::jw::j6::ig::ik::iq::iw::u32::jm::jq::jr::jE::jF::jG::jH::jI::jJ::jK::jL::jM::jN::jO::jP::jQ::jR::jS::jT::jU::jV::jW::jX::jY::kv::ky::kz::kC::kD::kE::kF::u64::kG::kH::kg::ko::kI::kJ::kK::kL::kM::kN::kP::kQ::kR::lK::lL::lN::lQ::lT::lU::lV::lW::lX::lY::lZ::l7::l8::l9::mf::mg::mi::mI::[])),defers:=[] } w:=by
 injection hc with k0;injection k0 with e0 k1;clear e0;injection k1 with e1 k2;clear e1;injection k2 with e2 k3;clear e2;injection k3 with e3 k4;clear e3;injection k4 with e4 k5;clear e4;injection k5 with e5 k6;clear e5;subst k6;have HC:=ae hC;have HR2:=ae hR;have HT:=ae hT;have HD:=ae hD;have HRR:=ae hr;have vk:=ae hd;have Xi:=ae hQ;have hne1:b≠R0:=by intro e;rw [e,hR] at hC;injection hC with h;injection h with _ h _;exact absurd h (by decide)
 have ahA:b<w.heap.size:=(df hC);have ahB:R0<w.heap.size:=(df hR);have HTI:Hid (bQ w.heap.size w ⟨ta,tn,tc⟩ 2 (T.map Row.cells)):=by
  obtain ⟨a,m,c,e,hm,hin⟩:=pI hT (fun y=>rfl);cases e;exact hin
 clear hC hR hT hD hr hd hQ;go_wp2_with fail
 have MK2:Hid (∀ w',Below w.heap.size w w'→(Below w.heap.size w w'∧w'.cell? ⟨b,2,none⟩=some (.slice ta tn tc)∧w'.cell? ⟨R0,3,none⟩=some (.int .u64 aP)∧w'.cell? ⟨R0,4,none⟩=some (.int .u64 bg))):=fun w' hb=>⟨hb,blk hb HC.out 2,blk hb HR2.out 3,blk hb HR2.out 4⟩
 go_region_held3 (fun w'=>Below w.heap.size w w'∧w'.cell? ⟨b,2,none⟩=some (.slice ta tn tc)∧w'.cell? ⟨R0,3,none⟩=some (.int .u64 aP)∧w'.cell? ⟨R0,4,none⟩=some (.int .u64 bg)) (first | exact MK2.out _ (Below.refl _ _).drew | exact MK2.out _ (fB (by assumption) (by assumption)) | exact MK2.out _ (fI (by assumption))) (first | (go_at_call 89;refine (Pj ta tn tc T aP bg _ (HTI.out.later (And.left (by assumption))) GG).mono ?_;rintro e w1 ⟨vb2,vw2,va2,rfl,ho,hbel⟩;have O1:=ae (Jr ho (base':=w.heap.size) (by first | exact Nat.le_refl _ | exact Below.size (And.left (by assumption))))))
 have HB1:Hid (Below w.heap.size w w1):=And.left (by assumption);obtain ⟨pa,pn,pc,rfl⟩:=aB O1.out.o1;obtain ⟨ea,en,ec,rfl⟩:=aB O1.out.o2;obtain ⟨oa,on,oc,rfl⟩:=aB O1.out.o3;have JA:Hid ((sB (fun x:Row=>x.key) aP T++(bF++sA (fun x:Row=>x.key) aP bg T)).length<1000000):=by
  show _<_;have:=FL (f:=(fun x:Row=>x.key)) aP bg T;simp only [List.length_append] at this ⊢;omega
 have wB:=ae (af HB1.out HC.out);have HR1:=ae (af HB1.out HR2.out);have r9:w1.cell? ⟨R0,5,none⟩=some (.slice bZ bR cK):=ah HR1.out 5;have uH:Hid (bQ w1.heap.size w1 ⟨bZ,bR,cK⟩ 2 (bF.map Row.cells)):=Dr (zF (A:=fun _=>False) HRR.out (av.later HB1.out) hbw (fun _ _ h=>h)) (Nat.le_trans hbw HB1.out.size);go_upto_region 8 with (first
  | (go_at_call 91;go_must (refine (Ni _ w1.heap.size 3 3 _ _ (adC O1.out.o1 uH.out hrn O1.out.o3 Hw) rfl (by simpa using JA.out) (by simp)).mono ?_;rintro e w2 ⟨dN,rfl,Bl,hb4⟩;have HB2:Hid (Below w1.heap.size w1 w2):=ae (ai (aj w1 _) hb4);have Xk:=dR Bl;have HT2:Hid (w2.ownsRow w1.heap.size 128 2 dN (sB (fun x:Row=>x.key) aP T++(bF++sA (fun x:Row=>x.key) aP bg T)).length ((sB (fun x:Row=>x.key) aP T++(bF++sA (fun x:Row=>x.key) aP bg T)).map Row.cells).flatten):=(show _ from by with_unfolding_all exact Td Bl (by simp));have lH:=ae (af HB2.out wB.out);have HR3:=ae (af HB2.out HR1.out);clear Bl hb4))
  | (with_reducible show dJ 25 73 ..;go_must (refine cZ rfl _ _ _ rfl rfl b 2 rfl dN rfl (by kernel_rfl) Xk [.int .u8 g,.int .u8 n,.slice ta tn tc,vM,.slice da dn dc,vO,vI] 31 lH.out rfl [.int .u8 g,.int .u8 n,dN,vM,.slice da dn dc,vO,vI] rfl ?_;intro w3 hw ho;have U7:Hid (w3.heap[b]? = some (.cells #[.int .u8 g,.int .u8 n,dN,vM,.slice da dn dc,vO,vI] 31)):=ae hw;have pE:Hid (Only b w2 w3):=ae ho;have HR4:Hid (w3.heap[R0]? = some (.cells (rR aM bG aV aP bg bZ bR cK bX bN bY).toArray 52)):=ae ((ho.block _ (Ne.symm hne1)).trans HR3.out);clear hw ho)))
 have C3:Hid (av (fun k=>k=b) w w3):=(av.later (ai HB1.out HB2.out)).trans (av.only pE.out rfl);have HD3:Hid (w3.ownsRow base 57 7 (.slice da dn dc) D.length (D.map ak.cells).flatten):=dB HD.out C3.out (eF HD.out HC.out (by decide));have HT3:Hid (w3.ownsRow w1.heap.size 128 2 dN (sB (fun x:Row=>x.key) aP T++(bF++sA (fun x:Row=>x.key) aP bg T)).length ((sB (fun x:Row=>x.key) aP T++(bF++sA (fun x:Row=>x.key) aP bg T)).map Row.cells).flatten):=dB HT2.out (av.only (A:=fun k=>k=b) pE.out rfl) (eF HT2.out lH.out (by decide));have HDI:Hid (bQ w3.heap.size w3 ⟨da,dn,dc⟩ 7 (D.map ak.cells)):=by
  obtain ⟨a,m,c,e,hm,hin⟩:=pI HD3.out (fun y=>rfl);cases e;exact hin
 clear r9;have MK4:Hid (∀ w',Below w3.heap.size w3 w'→(Below w3.heap.size w3 w'∧w'.cell? ⟨b,4,none⟩=some (.slice da dn dc)∧w'.cell? ⟨R0,3,none⟩=some (.int .u64 aP)∧w'.cell? ⟨R0,4,none⟩=some (.int .u64 bg))):=fun w' hb=>⟨hb,blk hb U7.out 4,blk hb HR4.out 3,blk hb HR4.out 4⟩
 go_region_held3 (fun w'=>Below w3.heap.size w3 w'∧w'.cell? ⟨b,4,none⟩=some (.slice da dn dc)∧w'.cell? ⟨R0,3,none⟩=some (.int .u64 aP)∧w'.cell? ⟨R0,4,none⟩=some (.int .u64 bg)) (first | exact MK4.out _ (Below.refl _ _).drew | exact MK4.out _ (fB (by assumption) (by assumption)) | exact MK4.out _ (fI (by assumption))) (first | (go_at_call 92;refine (Pk da dn dc D aP bg _ (HDI.out.later (And.left (by assumption))) hnD).mono ?_;rintro e w4 ⟨vb4,vw4,va4,rfl,ho,hbel⟩;have O4:=ae (Jr ho (base':=w3.heap.size) (by first | exact Nat.le_refl _ | exact Below.size (And.left (by assumption))))))
 have fD:Hid (Below w3.heap.size w3 w4):=And.left (by assumption);obtain ⟨pa,pn,pc,rfl⟩:=aB O4.out.o1;obtain ⟨ea,en,ec,rfl⟩:=aB O4.out.o2;obtain ⟨oa,on,oc,rfl⟩:=aB O4.out.o3;have Te:Hid ((sB (fun x:ak=>x.key) aP D++(bC++sA (fun x:ak=>x.key) aP bg D)).length<1000000):=by
  show _<_;have:=FL (f:=(fun x:ak=>x.key)) aP bg D;simp only [List.length_append] at this ⊢;omega
 have Db:=ae (af fD.out U7.out);have zU:=ae (af fD.out HR4.out);have hc6:w4.cell? ⟨R0,6,none⟩=some (.slice bX bN bY):=ah zU.out 6;have I8:Hid (bQ w4.heap.size w4 ⟨bX,bN,bY⟩ 7 (bC.map ak.cells)):=Dr (zF (A:=fun k=>k=b) vk.out (C3.out.trans (av.later fD.out)) hbw (fun k hk e=>by omega)) (Nat.le_trans hbw (Nat.le_trans C3.out.size fD.out.size));go_wp2_with (first
  | (go_at_call 94;go_must (refine (Nj _ w4.heap.size 3 3 _ _ (adC O4.out.o1 I8.out hdn O4.out.o3 MU) rfl (by simpa using Te.out) (by simp)).mono ?_;rintro e w5 ⟨eY,rfl,Bl,hb4⟩;have fu:Hid (Below w4.heap.size w4 w5):=ae (ai (aj w4 _) hb4);have Xm:=dR Bl;have HD5:Hid (w5.ownsRow w4.heap.size 57 7 eY (sB (fun x:ak=>x.key) aP D++(bC++sA (fun x:ak=>x.key) aP bg D)).length ((sB (fun x:ak=>x.key) aP D++(bC++sA (fun x:ak=>x.key) aP bg D)).map ak.cells).flatten):=(show _ from by with_unfolding_all exact Td Bl (by simp));have KZ:=ae (af fu.out Db.out);clear Bl hb4))
  | (with_reducible show dJ 27 95 ..;go_must (refine cZ rfl _ _ _ rfl rfl b 4 rfl eY rfl (by kernel_rfl) Xm [.int .u8 g,.int .u8 n,dN,vM,.slice da dn dc,vO,vI] 31 KZ.out rfl (rW g n dN vM eY vO vI) rfl ?_;intro w6 hw ho;have U2:Hid (w6.heap[b]? = some (.cells (rW g n dN vM eY vO vI).toArray 31)):=ae hw;have Nf:Hid (Only b w5 w6):=ae ho;clear hw ho)))
 go_end0
 have c6:av (fun k=>k=b) w5 w6:=av.only Nf.out rfl;have UU:=ay (ay HT3.out fD.out) fu.out;have hs1:=HB1.out.size;have hs2:=HB2.out.size;have hs3:=pE.out.size;have hs4:=fD.out.size;exact ⟨rfl,Xi.out w6 dN eY ⟨U2.out,dE (dB UU c6 (eF UU KZ.out (by decide))) (by omega),dE (dB HD5.out c6 (eF HD5.out KZ.out (by decide))) (by omega),(C3.out.trans (av.later (ai fD.out fu.out))).trans c6⟩⟩
end
end Go.Proofs.YtignemioillaiaaGreat
