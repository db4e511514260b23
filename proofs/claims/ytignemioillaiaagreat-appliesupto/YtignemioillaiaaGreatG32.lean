/- The document's answer: when a range is right. -/
import Derived.Test.YtignemioillaiaaGreatG19
namespace Go.Proofs.YtignemioillaiaaGreat
set_option maxHeartbeats 8000000
set_option maxRecDepth 100000
section
open Go.RowKit
theorem wo:(Tryz.prog.info? 57).map (·.size)=some 7:=by kernel_rfl
theorem Wj {W a b:World} {X:Prop} (h:Below W.heap.size W a∧X) (k:Below a.heap.size a b):Below W.heap.size W b:=ai h.1 k
theorem NS {w W b:World} {X:Prop} (hl:Below w.heap.size w W) (h:Below W.heap.size W b∧X):Below w.heap.size w b:=ai hl h.1
theorem IE {lo hi:Int} {rows:List Row} {k:Nat} {x:Row} (hx:rows[k]? = some x) (h0:k=0):rowAt lo hi rows k=(decide (lo≤x.key) && decide (x.key≤hi)):=by
 subst h0;unfold rowAt;rw [hx];simp
theorem FX {lo hi:Int} {rows:List Row} {k:Nat} {x y:Row} (hx:rows[k]? = some x) (h0:0<k) (hy:rows[k - 1]? = some y):rowAt lo hi rows k=(decide (lo≤x.key) && decide (x.key≤hi) && decide (y.key<x.key)):=by
 have:(k == 0)=false:=by simp;omega
 unfold rowAt;rw [hx];simp [hy,this]
theorem zR {lo hi:Int} {bP:List ak} {k:Nat} {x:ak} (hx:bP[k]? = some x) (h0:k=0):qV lo hi bP k=(x.ok && kept x.k && decide (lo≤x.key) && decide (x.key≤hi)):=by
 subst h0;unfold qV;rw [hx];simp
theorem zI {lo hi:Int} {bP:List ak} {k:Nat} {x y:ak} (hx:bP[k]? = some x) (h0:0<k) (hy:bP[k - 1]? = some y):qV lo hi bP k=(x.ok && kept x.k && decide (lo≤x.key) && decide (x.key≤hi) && ahead y x):=by
 have:(k == 0)=false:=by simp;omega
 unfold qV;rw [hx];simp [hy,this]
theorem ak.Vo {p:ak} (h:p.ok=true) (h3:¬ p.k=3) (h4:¬ p.k=4):kept p.k=true:=by
 unfold ak.ok at h;simp [h3,h4] at h;simp [kept];rcases h.2 with h | h
 ·left;left;exact h.1.1
 ·rcases h.1.1.1 with h | h
  ·left;right;exact h
  ·right;exact h
theorem Ra (aM bG aV aP bg:Int) (bZ:Option Addr) (bR cK:Nat) (bX:Option Addr) (bN bY:Nat) (bF:List Row) (bC:List ak) (w:World) (h1:bQ w.heap.size w ⟨bZ,bR,cK⟩ 2 (bF.map Row.cells)) (h2:bQ w.heap.size w ⟨bX,bN,bY⟩ 7 (bC.map ak.cells)) (hwf:(aF.mk aM bG aV aP bg ⟨bZ,bR,cK⟩ ⟨bX,bN,bY⟩ bF bC).wf) :
 Calls Tryz.prog 49 #[.agg (rR aM bG aV aP bg bZ bR cK bX bN bY).toArray] w fun e w'=>e=.returned (.bool (aF.mk aM bG aV aP bg ⟨bZ,bR,cK⟩ ⟨bX,bN,bY⟩ bF bC).ok)∧Below w.heap.size w w':=by
 obtain ⟨hs1,hs2,hs3,hs4,hs5,hs6,hs7⟩:=hwf;simp only [U8,UO,KS] at hs1 hs2 hs3 hs4 hs5;have HWD:Hid (∀ (i:Nat) (x:ak),bC[i]? = some x→x.wf):=hs7;have hrn:bR=bF.length:=by simpa using h1.len
 have hdn:bN=bC.length:=by simpa using h2.len
 have Lm:Hid (bR=bF.length):=hrn;have uK:Hid (bN=bC.length):=hdn;clear hs6 hs7 hrn hdn;by_cases c3:(aV == 0)=false
 case neg =>
  have c4:aV=0:=by simpa using c3
  go_enter Tryz.func49,Tryz.ntmps49
  go_wp2_with fail
  all_goals (go_ret;refine ⟨dA ?_,aj _ _⟩;simp [aF.ok,c4])
 case pos =>
 by_cases aly:bN≤255
 case neg =>
  go_enter Tryz.func49,Tryz.ntmps49
  go_wp2_with fail
  all_goals (go_ret;refine ⟨dA ?_,aj _ _⟩;have:=Lm.out;have:=uK.out;simp [aF.ok,uV,yx];omega)
 case pos =>
 go_enter Tryz.func49,Tryz.ntmps49
 go_wp2_with fail
 all_goals first | (go_ret;refine ⟨dA ?_,aj _ _⟩;have:=Lm.out;have:=uK.out;simp [aF.ok,uV,yx];omega) | (exfalso;rename_i hcon;simp at hcon;omega) | skip
 have alz:bR≤255:=by omega
 have hhead:decide (aM<4)=true∧decide (bG<4)=true∧decide (1≤aV)=true∧decide (aP≤bg)=true:=by (have c3':¬ aV=0:=(by simpa using c3));simp;omega
 have HH:Hid (decide (aM<4)=true∧decide (bG<4)=true∧decide (1≤aV)=true∧decide (aP≤bg)=true):=hhead;clear hhead;generalize hW:w.alloc (Obj.cells (rR aM bG aV aP bg bZ bR cK bX bN bY).toArray 52)=W;have hW0:W.heap[w.heap.size]? = some (Obj.cells (rR aM bG aV aP bg bZ bR cK bX bN bY).toArray 52):=by rw [← hW];exact heap_alloc_new w _
 have hW1:Below w.heap.size w W:=by rw [← hW];exact aj w _
 clear hW;go_loopw [3] (fun i wr=>∃ k:Nat,k≤bR∧i=.int .i64 k∧(List.range k).all (rowAt aP bg bF)=true∧Below W.heap.size W wr) (fun i _=>bR - (intOf i).toNat)
 case atStart=>exact ⟨0,Nat.zero_le _,rfl,by simp,Below.refl _ _⟩
 case round =>
  obtain ⟨k,hk,rfl,hall,hnx⟩:=hrel;have hB:=blk hnx hW0;have HA:Hid ((List.range k).all (rowAt aP bg bF)=true):=hall;clear hall;by_cases hlt:k<bR
  ·obtain ⟨x,hx⟩:∃ x,bF[k]? = some x:=⟨bF[k]'(by rw [← Lm.out];exact hlt),by simp⟩
   have hS:=(h1.later hW1).later hnx;obtain ⟨b,off,ha,j4,hc0,hc1⟩:=hS.at2 hx;obtain rfl:bZ=some ⟨b,off,none⟩:=ha;have HX:Hid (bF[k]? = some x):=hx;clear hx;by_cases hk0:0<k
   ·obtain ⟨y,hy⟩:∃ y,bF[k - 1]? = some y:=⟨bF[k - 1]'(by rw [← Lm.out];omega),by simp⟩
    obtain ⟨b',off',ha',_,hd0,_⟩:=hS.at2 hy;simp only [Option.some.injEq,Addr.mk.injEq,and_true] at ha';obtain ⟨rfl,rfl⟩:=ha';have HY:Hid (bF[k - 1]? = some y):=hy;clear hy;by_cases t1:x.key<aP
    ·go_wp2;go_ret;exact ⟨dA (by rw [aF.ok];dsimp only;rw [zy (k:=k) (by rw [← Lm.out];exact hlt) (by rw [FX HX.out hk0 HY.out];simp;omega)];simp),ai hW1 hnx⟩
    by_cases t2:bg<x.key
    ·go_wp2;go_ret;exact ⟨dA (by rw [aF.ok];dsimp only;rw [zy (k:=k) (by rw [← Lm.out];exact hlt) (by rw [FX HX.out hk0 HY.out];simp;omega)];simp),ai hW1 hnx⟩
    by_cases t3:x.key≤y.key
    ·go_wp2;go_ret;exact ⟨dA (by rw [aF.ok];dsimp only;rw [zy (k:=k) (by rw [← Lm.out];exact hlt) (by rw [FX HX.out hk0 HY.out];simp;omega)];simp),ai hW1 hnx⟩
    ·go_wp2
     go_roundw
     case rel=>exact ⟨k+1,by omega,by go_num,sH HA.out (by rw [FX HX.out hk0 HY.out];simp;omega),hnx⟩
     case measure=>simp [intOf];omega
   ·have hd:decide ((0:Int)<(k:Int))=false:=by simp;omega
    by_cases t1:x.key<aP
    ·go_wp2;go_ret;exact ⟨dA (by rw [aF.ok];dsimp only;rw [zy (k:=k) (by rw [← Lm.out];exact hlt) (by rw [IE HX.out (by omega)];simp;omega)];simp),ai hW1 hnx⟩
    by_cases t2:bg<x.key
    ·go_wp2;go_ret;exact ⟨dA (by rw [aF.ok];dsimp only;rw [zy (k:=k) (by rw [← Lm.out];exact hlt) (by rw [IE HX.out (by omega)];simp;omega)];simp),ai hW1 hnx⟩
    ·go_wp2
     go_roundw
     case rel=>exact ⟨k+1,by omega,by go_num,sH HA.out (by rw [IE HX.out (by omega)];simp;omega),hnx⟩
     case measure=>simp [intOf];omega
  ·have hk':k=bR:=by omega
   have HRO:Hid (uV aP bg bF=true):=by
    show uV aP bg bF=true;have h3:=HA.out;have h4:=Lm.out;rw [hk',h4] at h3;simp [uV,h3];omega
   have HK':Hid (k=bR):=hk';clear hk';go_wp2_with fail
   go_loopw [5] (fun i wq=>∃ j:Nat,j≤bN∧i=.int .i64 j∧(List.range j).all (qV aP bg bC)=true∧Below W.heap.size W wq) (fun i _=>bN - (intOf i).toNat)
   case atStart=>exact ⟨0,Nat.zero_le _,rfl,by simp,hnx⟩
   case round =>
    obtain ⟨j,hj,rfl,KM,hnq⟩:=hrel;have HA2:Hid ((List.range j).all (qV aP bg bC)=true):=KM;have Je:=blk hnq hW0;clear KM;by_cases hlj:j<bN
    ·obtain ⟨y,hy⟩:∃ y,bC[j]? = some y:=⟨bC[j]'(by rw [← uK.out];exact hlj),by simp⟩
     have hSq:=(h2.later hW1).later hnq;obtain ⟨b,off,ha,j4,hc⟩:=hSq.el (i:=j) (x:=y.cells) (by simp [hy]);obtain rfl:bX=some ⟨b,off,none⟩:=ha;have hyw:=HWD.out j y hy;have HY:Hid (bC[j]? = some y):=hy;clear hy;obtain ⟨yc,ys,dM,yk,yf,yv,yg⟩:=y;simp only [ak.cells] at hc;obtain ⟨_,hy2,_,hy4,_,_⟩:=hyw;simp only [U8,UO] at hy2 hy4;have Jf:=heap_alloc_new wr (.cells bA.toArray 57);have Jg:=aj wr (.cells bA.toArray 57);have Ha:w.heap.size<wr.heap.size:=Nat.lt_of_lt_of_le (df hW0) hnq.size;by_cases hj0:0<j
     case neg =>
      have hd0:decide ((0:Int)<(j:Int))=false:=by simp;omega
      by_cases t0:(ak.mk yc ys dM yk yf yv yg).ok=true
      case neg =>
       have t0':(ak.mk yc ys dM yk yf yv yg).ok=false:=by simpa using t0
       go_wp2_with (first | (with_reducible show cB 90 57 ..;go_must (refine bB rfl _ _ rfl b (off+j*7) rfl 7 _ dD rfl wo (rP yc ys dM yk yf yv yg) rfl hc ?_)) | (with_reducible show wpList _ _ _ ({ dst:=_,op:=Op.store 57 _ _,type:=_,pos:=_,after:=_,guard:=none }::_) _ _;go_must (refine fH wr.heap.size 0 (rP yc ys dM yk yf yv yg) _ _ _ Jf (rP yc ys dM yk yf yv yg) ?_;intro w2 hW2 hO2;have qY:=Jg.trans (hO2.below (Nat.le_refl _)))) | (with_reducible show cB 91 57 ..;go_must (refine dF wr.heap.size 0 7 dD _ _ hW2 (rP yc ys dM yk yf yv yg) ?_)) | (go_at_call 102;go_must (refine (qN _ _ _ _ _ _ _ _ (by omega) (by omega)).mono ?_;rintro e w3 ⟨rfl,kT⟩;have nV:=ai qY kT;have hB3:∀ o,w3.cell? ⟨w.heap.size,o,none⟩=_:=fun o=>(bU nV Ha o).trans (Je o);have hW3:=af kT hW2;have hD3:=ah hW3)))
       go_ret;exact ⟨dA (by rw [aF.ok];dsimp only;rw [oP (k:=j) (by rw [← uK.out];exact hlj) (by rw [zR HY.out (by omega)];simp [t0'])];simp),ai hW1 (ai hnq nV)⟩
      by_cases t1:(yk == 3)=true
      case pos =>
       go_wp2_with (first | (with_reducible show cB 90 57 ..;go_must (refine bB rfl _ _ rfl b (off+j*7) rfl 7 _ dD rfl wo (rP yc ys dM yk yf yv yg) rfl hc ?_)) | (with_reducible show wpList _ _ _ ({ dst:=_,op:=Op.store 57 _ _,type:=_,pos:=_,after:=_,guard:=none }::_) _ _;go_must (refine fH wr.heap.size 0 (rP yc ys dM yk yf yv yg) _ _ _ Jf (rP yc ys dM yk yf yv yg) ?_;intro w2 hW2 hO2;have qY:=Jg.trans (hO2.below (Nat.le_refl _)))) | (with_reducible show cB 91 57 ..;go_must (refine dF wr.heap.size 0 7 dD _ _ hW2 (rP yc ys dM yk yf yv yg) ?_)) | (go_at_call 102;go_must (refine (qN _ _ _ _ _ _ _ _ (by omega) (by omega)).mono ?_;rintro e w3 ⟨rfl,kT⟩;have nV:=ai qY kT;have hB3:∀ o,w3.cell? ⟨w.heap.size,o,none⟩=_:=fun o=>(bU nV Ha o).trans (Je o);have hW3:=af kT hW2;have hD3:=ah hW3)))
       go_ret;exact ⟨dA (by rw [aF.ok];dsimp only;rw [oP (k:=j) (by rw [← uK.out];exact hlj) (by rw [zR HY.out (by omega)];simp [kept,show yk=3 by simpa using t1])];simp),ai hW1 (ai hnq nV)⟩
      by_cases t2:(yk == 4)=true
      case pos =>
       go_wp2_with (first | (with_reducible show cB 90 57 ..;go_must (refine bB rfl _ _ rfl b (off+j*7) rfl 7 _ dD rfl wo (rP yc ys dM yk yf yv yg) rfl hc ?_)) | (with_reducible show wpList _ _ _ ({ dst:=_,op:=Op.store 57 _ _,type:=_,pos:=_,after:=_,guard:=none }::_) _ _;go_must (refine fH wr.heap.size 0 (rP yc ys dM yk yf yv yg) _ _ _ Jf (rP yc ys dM yk yf yv yg) ?_;intro w2 hW2 hO2;have qY:=Jg.trans (hO2.below (Nat.le_refl _)))) | (with_reducible show cB 91 57 ..;go_must (refine dF wr.heap.size 0 7 dD _ _ hW2 (rP yc ys dM yk yf yv yg) ?_)) | (go_at_call 102;go_must (refine (qN _ _ _ _ _ _ _ _ (by omega) (by omega)).mono ?_;rintro e w3 ⟨rfl,kT⟩;have nV:=ai qY kT;have hB3:∀ o,w3.cell? ⟨w.heap.size,o,none⟩=_:=fun o=>(bU nV Ha o).trans (Je o);have hW3:=af kT hW2;have hD3:=ah hW3)))
       go_ret;exact ⟨dA (by rw [aF.ok];dsimp only;rw [oP (k:=j) (by rw [← uK.out];exact hlj) (by rw [zR HY.out (by omega)];simp [kept,show yk=4 by simpa using t2])];simp),ai hW1 (ai hnq nV)⟩
      by_cases t3:dM<aP
      case pos =>
       go_wp2_with (first | (with_reducible show cB 90 57 ..;go_must (refine bB rfl _ _ rfl b (off+j*7) rfl 7 _ dD rfl wo (rP yc ys dM yk yf yv yg) rfl hc ?_)) | (with_reducible show wpList _ _ _ ({ dst:=_,op:=Op.store 57 _ _,type:=_,pos:=_,after:=_,guard:=none }::_) _ _;go_must (refine fH wr.heap.size 0 (rP yc ys dM yk yf yv yg) _ _ _ Jf (rP yc ys dM yk yf yv yg) ?_;intro w2 hW2 hO2;have qY:=Jg.trans (hO2.below (Nat.le_refl _)))) | (with_reducible show cB 91 57 ..;go_must (refine dF wr.heap.size 0 7 dD _ _ hW2 (rP yc ys dM yk yf yv yg) ?_)) | (go_at_call 102;go_must (refine (qN _ _ _ _ _ _ _ _ (by omega) (by omega)).mono ?_;rintro e w3 ⟨rfl,kT⟩;have nV:=ai qY kT;have hB3:∀ o,w3.cell? ⟨w.heap.size,o,none⟩=_:=fun o=>(bU nV Ha o).trans (Je o);have hW3:=af kT hW2;have hD3:=ah hW3)))
       go_ret;exact ⟨dA (by rw [aF.ok];dsimp only;rw [oP (k:=j) (by rw [← uK.out];exact hlj) (by rw [zR HY.out (by omega)];simp;omega)];simp),ai hW1 (ai hnq nV)⟩
      by_cases t4:bg<dM
      case pos =>
       go_wp2_with (first | (with_reducible show cB 90 57 ..;go_must (refine bB rfl _ _ rfl b (off+j*7) rfl 7 _ dD rfl wo (rP yc ys dM yk yf yv yg) rfl hc ?_)) | (with_reducible show wpList _ _ _ ({ dst:=_,op:=Op.store 57 _ _,type:=_,pos:=_,after:=_,guard:=none }::_) _ _;go_must (refine fH wr.heap.size 0 (rP yc ys dM yk yf yv yg) _ _ _ Jf (rP yc ys dM yk yf yv yg) ?_;intro w2 hW2 hO2;have qY:=Jg.trans (hO2.below (Nat.le_refl _)))) | (with_reducible show cB 91 57 ..;go_must (refine dF wr.heap.size 0 7 dD _ _ hW2 (rP yc ys dM yk yf yv yg) ?_)) | (go_at_call 102;go_must (refine (qN _ _ _ _ _ _ _ _ (by omega) (by omega)).mono ?_;rintro e w3 ⟨rfl,kT⟩;have nV:=ai qY kT;have hB3:∀ o,w3.cell? ⟨w.heap.size,o,none⟩=_:=fun o=>(bU nV Ha o).trans (Je o);have hW3:=af kT hW2;have hD3:=ah hW3)))
       go_ret;exact ⟨dA (by rw [aF.ok];dsimp only;rw [oP (k:=j) (by rw [← uK.out];exact hlj) (by rw [zR HY.out (by omega)];simp;omega)];simp),ai hW1 (ai hnq nV)⟩
      have hkp:=ak.Vo t0 (by simpa using t1) (by simpa using t2);have HKP:Hid (kept yk=true):=hkp;clear hkp;have t1':(yk == 3)=false:=by simpa using t1
      have t2':(yk == 4)=false:=by simpa using t2
      clear t1 t2;go_wp2_with (first | (with_reducible show cB 90 57 ..;go_must (refine bB rfl _ _ rfl b (off+j*7) rfl 7 _ dD rfl wo (rP yc ys dM yk yf yv yg) rfl hc ?_)) | (with_reducible show wpList _ _ _ ({ dst:=_,op:=Op.store 57 _ _,type:=_,pos:=_,after:=_,guard:=none }::_) _ _;go_must (refine fH wr.heap.size 0 (rP yc ys dM yk yf yv yg) _ _ _ Jf (rP yc ys dM yk yf yv yg) ?_;intro w2 hW2 hO2;have qY:=Jg.trans (hO2.below (Nat.le_refl _)))) | (with_reducible show cB 91 57 ..;go_must (refine dF wr.heap.size 0 7 dD _ _ hW2 (rP yc ys dM yk yf yv yg) ?_)) | (go_at_call 102;go_must (refine (qN _ _ _ _ _ _ _ _ (by omega) (by omega)).mono ?_;rintro e w3 ⟨rfl,kT⟩;have nV:=ai qY kT;have hB3:∀ o,w3.cell? ⟨w.heap.size,o,none⟩=_:=fun o=>(bU nV Ha o).trans (Je o);have hW3:=af kT hW2;have hD3:=ah hW3)))
      go_roundw
      case rel=>exact ⟨j+1,by omega,by go_num,sH HA2.out (by rw [zR HY.out (by omega)];simp [t0,HKP.out];omega),ai hnq nV⟩
      case measure=>simp [intOf];omega
     case pos =>
      obtain ⟨i,rfl⟩:∃ i,j=i+1:=⟨j - 1,by omega⟩;obtain ⟨z,hz⟩:∃ z,bC[i]? = some z:=⟨bC[i]'(by rw [← uK.out];omega),by simp⟩;obtain ⟨b',off',ha',_,hd0,hd1,hd2,hd3,hd4,hd5,hd6⟩:=hSq.KR hz;simp only [Option.some.injEq,Addr.mk.injEq,and_true] at ha';obtain ⟨rfl,rfl⟩:=ha';have HZ:Hid (bC[i]? = some z):=hz;clear hz;obtain ⟨zc,zs,OH,zk,zf,zv,zg⟩:=z;dsimp only at hd0 hd1 hd2 hd3 hd4 hd5 hd6;have alW:(0:Int)<(i:Int)+1:=by omega
      by_cases t0:(ak.mk yc ys dM yk yf yv yg).ok=true
      case neg =>
       have t0':(ak.mk yc ys dM yk yf yv yg).ok=false:=by simpa using t0
       go_wp2_with (first | (with_reducible show cB 90 57 ..;go_must (refine bB rfl _ _ rfl b (off+(i+1)*7) rfl 7 _ dD rfl wo (rP yc ys dM yk yf yv yg) rfl hc ?_)) | (with_reducible show wpList _ _ _ ({ dst:=_,op:=Op.store 57 _ _,type:=_,pos:=_,after:=_,guard:=none }::_) _ _;go_must (refine fH wr.heap.size 0 (rP yc ys dM yk yf yv yg) _ _ _ Jf (rP yc ys dM yk yf yv yg) ?_;intro w2 hW2 hO2;have qY:=Jg.trans (hO2.below (Nat.le_refl _)))) | (with_reducible show cB 91 57 ..;go_must (refine dF wr.heap.size 0 7 dD _ _ hW2 (rP yc ys dM yk yf yv yg) ?_)) | (go_at_call 102;go_must (refine (qN _ _ _ _ _ _ _ _ (by omega) (by omega)).mono ?_;rintro e w3 ⟨rfl,kT⟩;have nV:=ai qY kT;have hB3:∀ o,w3.cell? ⟨w.heap.size,o,none⟩=_:=fun o=>(bU nV Ha o).trans (Je o);have hW3:=af kT hW2;have hD3:=ah hW3)))
       go_ret;exact ⟨dA (by rw [aF.ok];dsimp only;rw [oP (k:=i+1) (by rw [← uK.out];exact hlj) (by rw [zI HY.out hj0 HZ.out];simp [t0'])];simp),ai hW1 (ai hnq nV)⟩
      by_cases t1:(yk == 3)=true
      case pos =>
       go_wp2_with (first | (with_reducible show cB 90 57 ..;go_must (refine bB rfl _ _ rfl b (off+(i+1)*7) rfl 7 _ dD rfl wo (rP yc ys dM yk yf yv yg) rfl hc ?_)) | (with_reducible show wpList _ _ _ ({ dst:=_,op:=Op.store 57 _ _,type:=_,pos:=_,after:=_,guard:=none }::_) _ _;go_must (refine fH wr.heap.size 0 (rP yc ys dM yk yf yv yg) _ _ _ Jf (rP yc ys dM yk yf yv yg) ?_;intro w2 hW2 hO2;have qY:=Jg.trans (hO2.below (Nat.le_refl _)))) | (with_reducible show cB 91 57 ..;go_must (refine dF wr.heap.size 0 7 dD _ _ hW2 (rP yc ys dM yk yf yv yg) ?_)) | (go_at_call 102;go_must (refine (qN _ _ _ _ _ _ _ _ (by omega) (by omega)).mono ?_;rintro e w3 ⟨rfl,kT⟩;have nV:=ai qY kT;have hB3:∀ o,w3.cell? ⟨w.heap.size,o,none⟩=_:=fun o=>(bU nV Ha o).trans (Je o);have hW3:=af kT hW2;have hD3:=ah hW3)))
       go_ret;exact ⟨dA (by rw [aF.ok];dsimp only;rw [oP (k:=i+1) (by rw [← uK.out];exact hlj) (by rw [zI HY.out hj0 HZ.out];simp [kept,show yk=3 by simpa using t1])];simp),ai hW1 (ai hnq nV)⟩
      by_cases t2:(yk == 4)=true
      case pos =>
       go_wp2_with (first | (with_reducible show cB 90 57 ..;go_must (refine bB rfl _ _ rfl b (off+(i+1)*7) rfl 7 _ dD rfl wo (rP yc ys dM yk yf yv yg) rfl hc ?_)) | (with_reducible show wpList _ _ _ ({ dst:=_,op:=Op.store 57 _ _,type:=_,pos:=_,after:=_,guard:=none }::_) _ _;go_must (refine fH wr.heap.size 0 (rP yc ys dM yk yf yv yg) _ _ _ Jf (rP yc ys dM yk yf yv yg) ?_;intro w2 hW2 hO2;have qY:=Jg.trans (hO2.below (Nat.le_refl _)))) | (with_reducible show cB 91 57 ..;go_must (refine dF wr.heap.size 0 7 dD _ _ hW2 (rP yc ys dM yk yf yv yg) ?_)) | (go_at_call 102;go_must (refine (qN _ _ _ _ _ _ _ _ (by omega) (by omega)).mono ?_;rintro e w3 ⟨rfl,kT⟩;have nV:=ai qY kT;have hB3:∀ o,w3.cell? ⟨w.heap.size,o,none⟩=_:=fun o=>(bU nV Ha o).trans (Je o);have hW3:=af kT hW2;have hD3:=ah hW3)))
       go_ret;exact ⟨dA (by rw [aF.ok];dsimp only;rw [oP (k:=i+1) (by rw [← uK.out];exact hlj) (by rw [zI HY.out hj0 HZ.out];simp [kept,show yk=4 by simpa using t2])];simp),ai hW1 (ai hnq nV)⟩
      by_cases t3:dM<aP
      case pos =>
       go_wp2_with (first | (with_reducible show cB 90 57 ..;go_must (refine bB rfl _ _ rfl b (off+(i+1)*7) rfl 7 _ dD rfl wo (rP yc ys dM yk yf yv yg) rfl hc ?_)) | (with_reducible show wpList _ _ _ ({ dst:=_,op:=Op.store 57 _ _,type:=_,pos:=_,after:=_,guard:=none }::_) _ _;go_must (refine fH wr.heap.size 0 (rP yc ys dM yk yf yv yg) _ _ _ Jf (rP yc ys dM yk yf yv yg) ?_;intro w2 hW2 hO2;have qY:=Jg.trans (hO2.below (Nat.le_refl _)))) | (with_reducible show cB 91 57 ..;go_must (refine dF wr.heap.size 0 7 dD _ _ hW2 (rP yc ys dM yk yf yv yg) ?_)) | (go_at_call 102;go_must (refine (qN _ _ _ _ _ _ _ _ (by omega) (by omega)).mono ?_;rintro e w3 ⟨rfl,kT⟩;have nV:=ai qY kT;have hB3:∀ o,w3.cell? ⟨w.heap.size,o,none⟩=_:=fun o=>(bU nV Ha o).trans (Je o);have hW3:=af kT hW2;have hD3:=ah hW3)))
       go_ret;exact ⟨dA (by rw [aF.ok];dsimp only;rw [oP (k:=i+1) (by rw [← uK.out];exact hlj) (by rw [zI HY.out hj0 HZ.out];simp;omega)];simp),ai hW1 (ai hnq nV)⟩
      by_cases t4:bg<dM
      case pos =>
       go_wp2_with (first | (with_reducible show cB 90 57 ..;go_must (refine bB rfl _ _ rfl b (off+(i+1)*7) rfl 7 _ dD rfl wo (rP yc ys dM yk yf yv yg) rfl hc ?_)) | (with_reducible show wpList _ _ _ ({ dst:=_,op:=Op.store 57 _ _,type:=_,pos:=_,after:=_,guard:=none }::_) _ _;go_must (refine fH wr.heap.size 0 (rP yc ys dM yk yf yv yg) _ _ _ Jf (rP yc ys dM yk yf yv yg) ?_;intro w2 hW2 hO2;have qY:=Jg.trans (hO2.below (Nat.le_refl _)))) | (with_reducible show cB 91 57 ..;go_must (refine dF wr.heap.size 0 7 dD _ _ hW2 (rP yc ys dM yk yf yv yg) ?_)) | (go_at_call 102;go_must (refine (qN _ _ _ _ _ _ _ _ (by omega) (by omega)).mono ?_;rintro e w3 ⟨rfl,kT⟩;have nV:=ai qY kT;have hB3:∀ o,w3.cell? ⟨w.heap.size,o,none⟩=_:=fun o=>(bU nV Ha o).trans (Je o);have hW3:=af kT hW2;have hD3:=ah hW3)))
       go_ret;exact ⟨dA (by rw [aF.ok];dsimp only;rw [oP (k:=i+1) (by rw [← uK.out];exact hlj) (by rw [zI HY.out hj0 HZ.out];simp;omega)];simp),ai hW1 (ai hnq nV)⟩
      have hkp:=ak.Vo t0 (by simpa using t1) (by simpa using t2);have HKP:Hid (kept yk=true):=hkp;clear hkp;have t1':(yk == 3)=false:=by simpa using t1
      have t2':(yk == 4)=false:=by simpa using t2
      clear t1 t2;go_wp2_with (first | (with_reducible show cB 90 57 ..;go_must (refine bB rfl _ _ rfl b (off+(i+1)*7) rfl 7 _ dD rfl wo (rP yc ys dM yk yf yv yg) rfl hc ?_)) | (with_reducible show wpList _ _ _ ({ dst:=_,op:=Op.store 57 _ _,type:=_,pos:=_,after:=_,guard:=none }::_) _ _;go_must (refine fH wr.heap.size 0 (rP yc ys dM yk yf yv yg) _ _ _ Jf (rP yc ys dM yk yf yv yg) ?_;intro w2 hW2 hO2;have qY:=Jg.trans (hO2.below (Nat.le_refl _)))) | (with_reducible show cB 91 57 ..;go_must (refine dF wr.heap.size 0 7 dD _ _ hW2 (rP yc ys dM yk yf yv yg) ?_)) | (go_at_call 102;go_must (refine (qN _ _ _ _ _ _ _ _ (by omega) (by omega)).mono ?_;rintro e w3 ⟨rfl,kT⟩;have nV:=ai qY kT;have hB3:∀ o,w3.cell? ⟨w.heap.size,o,none⟩=_:=fun o=>(bU nV Ha o).trans (Je o);have hW3:=af kT hW2;have hD3:=ah hW3)))
      have hz3:w.heap.size<w3.heap.size:=Nat.lt_of_lt_of_le Ha nV.size;have hzb:b<w3.heap.size:=Nat.lt_of_lt_of_le j4 nV.size;have he0:=(bU nV j4 _).trans hd0;have he1:=(bU nV j4 _).trans hd1;have he2:=(bU nV j4 _).trans hd2;have he3:=(bU nV j4 _).trans hd3;have he4:=(bU nV j4 _).trans hd4;have he5:=(bU nV j4 _).trans hd5;have he6:=(bU nV j4 _).trans hd6;have U3:Hid (∀ w',Below w3.heap.size w3 w'→(Below w3.heap.size w3 w'∧w'.cell? ⟨w.heap.size,6,none⟩=some (.slice (some ⟨b,off,none⟩) bN bY)∧w'.cell? ⟨wr.heap.size,0,none⟩=some (.int .u8 yc)∧w'.cell? ⟨wr.heap.size,1,none⟩=some (.int .u32 ys)∧w'.cell? ⟨wr.heap.size,2,none⟩=some (.int .u64 dM)∧w'.cell? ⟨wr.heap.size,3,none⟩=some (.int .u8 yk)∧w'.cell? ⟨wr.heap.size,4,none⟩=some (.bool yf)∧w'.cell? ⟨wr.heap.size,5,none⟩=some (.int .u64 yv)∧w'.cell? ⟨wr.heap.size,6,none⟩=some (.int .u8 yg)∧w'.cell? ⟨b,off+i*7,none⟩=some (.int .u8 zc)∧w'.cell? ⟨b,off+i*7+1,none⟩=some (.int .u32 zs)∧w'.cell? ⟨b,off+i*7+2,none⟩=some (.int .u64 OH)∧w'.cell? ⟨b,off+i*7+3,none⟩=some (.int .u8 zk)∧w'.cell? ⟨b,off+i*7+4,none⟩=some (.bool zf)∧w'.cell? ⟨b,off+i*7+5,none⟩=some (.int .u64 zv)∧w'.cell? ⟨b,off+i*7+6,none⟩=some (.int .u8 zg))):=fun w' hb=>⟨hb,(bU hb hz3 _).trans (hB3 6),blk hb hW3 0,blk hb hW3 1,blk hb hW3 2,blk hb hW3 3,blk hb hW3 4,blk hb hW3 5,blk hb hW3 6,(bU hb hzb _).trans he0,(bU hb hzb _).trans he1,(bU hb hzb _).trans he2,(bU hb hzb _).trans he3,(bU hb hzb _).trans he4,(bU hb hzb _).trans he5,(bU hb hzb _).trans he6⟩
      have hwi:IntKind.i64.wrap (i:Int)=(i:Int):=IntWalk.i64_in _ ⟨by omega,by omega⟩;have hi0:(0:Int)≤(i:Int):=by omega
      have hi1:(i:Int)<(bN:Int):=by omega
      have hi2:i<bN:=by omega
      go_region_held3 (fun w'=>Below w3.heap.size w3 w'∧w'.cell? ⟨w.heap.size,6,none⟩=some (.slice (some ⟨b,off,none⟩) bN bY)∧w'.cell? ⟨wr.heap.size,0,none⟩=some (.int .u8 yc)∧w'.cell? ⟨wr.heap.size,1,none⟩=some (.int .u32 ys)∧w'.cell? ⟨wr.heap.size,2,none⟩=some (.int .u64 dM)∧w'.cell? ⟨wr.heap.size,3,none⟩=some (.int .u8 yk)∧w'.cell? ⟨wr.heap.size,4,none⟩=some (.bool yf)∧w'.cell? ⟨wr.heap.size,5,none⟩=some (.int .u64 yv)∧w'.cell? ⟨wr.heap.size,6,none⟩=some (.int .u8 yg)∧w'.cell? ⟨b,off+i*7,none⟩=some (.int .u8 zc)∧w'.cell? ⟨b,off+i*7+1,none⟩=some (.int .u32 zs)∧w'.cell? ⟨b,off+i*7+2,none⟩=some (.int .u64 OH)∧w'.cell? ⟨b,off+i*7+3,none⟩=some (.int .u8 zk)∧w'.cell? ⟨b,off+i*7+4,none⟩=some (.bool zf)∧w'.cell? ⟨b,off+i*7+5,none⟩=some (.int .u64 zv)∧w'.cell? ⟨b,off+i*7+6,none⟩=some (.int .u8 zg)) (first | exact U3.out _ (Below.refl _ _).drew | exact U3.out _ (Wj (by assumption) (by assumption))) (first | (go_at_call 103;refine (rU _ _ _ _ _ _ _ _ _ _ _ _ _ _ _).mono ?_;rintro e w4 ⟨rfl,alA⟩))
      go_wp2
      ·go_ret
       have hah:ahead (ak.mk zc zs OH zk zf zv zg) (ak.mk yc ys dM yk yf yv yg)=false:=by simpa using (show (!ahead (ak.mk zc zs OH zk zf zv zg) (ak.mk yc ys dM yk yf yv yg))=true by assumption)
       exact ⟨dA (by rw [aF.ok];dsimp only;rw [oP (k:=i+1) (by rw [← uK.out];exact hlj) (by rw [zI HY.out hj0 HZ.out,hah,Bool.and_false])];simp),ai hW1 (ai hnq (NS nV (by assumption)))⟩
      ·have hah:ahead (ak.mk zc zs OH zk zf zv zg) (ak.mk yc ys dM yk yf yv yg)=true:=by simpa using (show (!ahead (ak.mk zc zs OH zk zf zv zg) (ak.mk yc ys dM yk yf yv yg))=false by assumption)
       go_roundw
       case rel=>exact ⟨i+1+1,by omega,by go_num,sH HA2.out (by rw [zI HY.out hj0 HZ.out,hah];simp [t0,HKP.out];omega),ai hnq (NS nV (by assumption))⟩
       case measure=>simp [intOf];omega
    ·go_wp2
     go_ret
     have hj':j=bN:=by omega
     refine ⟨dA ?_,ai hW1 hnq⟩;have h3:=HA2.out;have h4:=uK.out;have h5:=HH.out;have h6:=HRO.out;rw [hj',h4] at h3;simp only [aF.ok,h5.1,h5.2.1,h5.2.2.1,h5.2.2.2,h6,yx,h3,Bool.and_true,Bool.true_and];simp;omega
end
end Go.Proofs.YtignemioillaiaaGreat
