/- The document's answer: is it a map of keys. -/
import Derived.Test.YtignemioillaiaaGreatG13
namespace Go.Proofs.YtignemioillaiaaGreat
set_option maxHeartbeats 8000000
set_option maxRecDepth 100000
section
open Go.RowKit
theorem Xq (a:Option Addr) (n c:Nat) (m:List Pc) (w:World) (h:nT w a n c m) (hwf:∀ (i:Nat) (x:Pc),m[i]? = some x→x.wf) :
 Calls Tryz.prog 153 #[.slice a n c] w fun e w'=>e=.returned (.bool (nM m))∧Below w.heap.size w w':=by
 have hlen:n=m.length:=by simpa using h.len
 have hlm:n≤maxLen:=Nat.le_trans h.le h.max;unfold maxLen at hlm;have HL:Hid (n=m.length):=hlen;have HF:Hid (∀ (i:Nat) (x:Pc),m[i]? = some x→x.wf):=hwf;clear hlen hwf;by_cases h0:n=0
 ·subst h0
  go_enter Tryz.func153,Tryz.ntmps153
  go_wp2
  go_ret
  exact ⟨dA (M0 HL.out.symm).symm,Below.refl _ _⟩
 by_cases h1:1000<n
 ·have hd0:decide ((n:Int)<1)=false:=by simp;omega
  have hd1:decide ((1000:Int)<(n:Int))=true:=by simp;omega
  go_enter Tryz.func153,Tryz.ntmps153
  go_wp2
  go_ret
  exact ⟨dA (M7 (by have:=HL.out;omega)).symm,Below.refl _ _⟩
 obtain ⟨p,hp⟩:∃ x,m[0]? = some x:=⟨m[0]'(by rw [← HL.out];omega),by simp⟩;obtain ⟨b,off,ha,j4,hp0,hp1⟩:=h.C9 hp;obtain rfl:a=some ⟨b,off,none⟩:=ha;have hd0:decide ((n:Int)<1)=false:=by simp;omega
 have hd1:decide ((1000:Int)<(n:Int))=false:=by simp;omega
 have hi0:(0:Int)<(n:Int):=by omega
 have hpw:=HF.out 0 p hp;rw [Nat.zero_mul,Nat.add_zero] at hp0;have HP:Hid (m[0]? = some p):=hp;clear hp;by_cases O6:p.f=0
 ·have hbp:decide (0<p.f)=false:=by simp [O6]
  go_enter Tryz.func153,Tryz.ntmps153
  go_wp2
  go_loopw [3] (fun i wr=>∃ k:Nat,k≤n∧i=.int .i64 k∧(List.range k).all (zt m)=true∧Below w.heap.size w wr) (fun i _=>n - (intOf i).toNat)
  case atStart=>exact ⟨0,Nat.zero_le _,rfl,by simp,Below.refl _ _⟩
  case round =>
   obtain ⟨k,hk,rfl,hall,hnx⟩:=hrel;have HA:Hid ((List.range k).all (zt m)=true):=hall;clear hall;by_cases hlt:k<n
   ·obtain ⟨x,hx⟩:∃ x,m[k]? = some x:=⟨m[k]'(by rw [← HL.out];exact hlt),by simp⟩
    have hS:=h.below hnx (Nat.le_refl _);obtain ⟨b',off',ha,LH,hc0,hc1⟩:=hS.C9 hx;simp only [Option.some.injEq,Addr.mk.injEq,and_true] at ha;obtain ⟨rfl,rfl⟩:=ha;have HX:Hid (m[k]? = some x):=hx;clear hx;obtain ⟨xf,xg⟩:=x;dsimp only at hc0 hc1;have hbz:b<wr.heap.size:=by have:=hnx.size;omega
    have hi1:(0:Int)≤(k:Int):=by omega
    have hi2:(k:Int)<(n:Int):=by omega
    by_cases hg:3<xg
    ·have hgd:decide (3<xg)=true:=by simp;omega
     go_wp2_with fail
     go_quiet (fail)
     go_wp2
     go_ret
     exact ⟨dA (Ar (k:=k) (by rw [← HL.out];exact hlt) (KU HX.out (by show 4≤xg;omega))).symm,below_drewN hnx _⟩
    ·have hgd:decide (3<xg)=false:=by simp;omega
     by_cases hk0:0<k
     ·obtain ⟨y,hy⟩:∃ y,m[k - 1]? = some y:=⟨m[k - 1]'(by rw [← HL.out];omega),by simp⟩
      obtain ⟨b',off',ha',_,hd2,hd3⟩:=hS.C9 hy;simp only [Option.some.injEq,Addr.mk.injEq,and_true] at ha';obtain ⟨rfl,rfl⟩:=ha';have HY:Hid (m[k - 1]? = some y):=hy;clear hy;obtain ⟨yf,yg⟩:=y;dsimp only at hd2 hd3;have hkd:decide ((0:Int)<(k:Int))=true:=by simp;omega
      have hj0:(0:Int)≤(k:Int) - 1:=by omega
      have hj1:(k:Int) - 1<(n:Int):=by omega
      by_cases hle:xf≤yf
      ·have hld:decide (xf≤yf)=true:=by simp;omega
       go_wp2_with fail
       go_quiet (fail)
       go_wp2
       go_ret
       exact ⟨dA (Ar (k:=k) (by rw [← HL.out];exact hlt) (Di HX.out hk0 HY.out (.inl hle))).symm,below_drewN hnx _⟩
      ·have hld:decide (xf≤yf)=false:=by simp;omega
       by_cases hge:yg=xg
       ·have hbe:(yg == xg)=true:=by simp [hge]
        go_wp2_with fail
        go_quiet (fail)
        go_wp2
        go_ret
        exact ⟨dA (Ar (k:=k) (by rw [← HL.out];exact hlt) (Di HX.out hk0 HY.out (.inr hge.symm))).symm,below_drewN hnx _⟩
       ·have hbe:(yg == xg)=false:=by simp [hge]
        go_wp2_with fail
        go_quiet (fail)
        go_wp2
        go_roundw
        case rel=>exact ⟨k+1,by omega,by go_num,sH HA.out (Dj HX.out (by show xg<4;omega) (.inr ⟨_,HY.out,by show yf<xf;omega,fun e=>hge e.symm⟩)),below_drewN hnx _⟩
        case measure=>simp [intOf];omega
     ·have hkd:decide ((0:Int)<(k:Int))=false:=by simp;omega
      go_wp2_with fail
      go_quiet (fail)
      go_wp2
      go_roundw
      case rel=>exact ⟨k+1,by omega,by go_num,sH HA.out (Dj HX.out (by show xg<4;omega) (.inl (by omega))),below_drewN hnx _⟩
      case measure=>simp [intOf];omega
   ·go_wp2
    go_ret
    obtain rfl:k=n:=by omega
    exact ⟨dA (Na HP.out O6 (by rw [← HL.out];omega) (by have:=HA.out;rw [HL.out] at this;exact this)).symm,hnx⟩
 ·have hpp:0<p.f:=by have:=hpw.1;omega
  have hbp:decide (0<p.f)=true:=by simp [hpp]
  go_enter Tryz.func153,Tryz.ntmps153
  go_wp2
  go_ret
  exact ⟨dA (M8 HP.out O6).symm,Below.refl _ _⟩
theorem Ju (a:Option Addr) (n c:Nat) (m:List Pc) (key:Int) (w:World) (h:nT w a n c m) :
 Calls Tryz.prog 152 #[.slice a n c,.int .u64 key] w fun e w'=>e=.returned (.int .u8 (own 0 m key))∧Below w.heap.size w w':=by
 have hlen:n=m.length:=by simpa using h.len
 have hlm:n≤maxLen:=Nat.le_trans h.le h.max;unfold maxLen at hlm;have HL:Hid (n=m.length):=hlen;clear hlen;go_enter Tryz.func152,Tryz.ntmps152
 go_wp2
 go_loopw [5,6] (fun gr i wr=>∃ (k:Nat) (g:Int),k≤n∧i=.int .i64 k∧gr=.int .u8 g∧Hid (own 0 m key=own g (m.drop k) key)∧Below w.heap.size w wr) (fun _ i _=>n - (intOf i).toNat)
 case atStart=>exact ⟨0,0,Nat.zero_le _,rfl,rfl,(by show _=_;simp),Below.refl _ _⟩
 case round =>
  obtain ⟨k,g,hk,rfl,rfl,HG,hnx⟩:=hrel;by_cases hlt:k<n
  ·obtain ⟨x,hx⟩:∃ x,m[k]? = some x:=⟨m[k]'(by rw [← HL.out];exact hlt),by simp⟩
   have hS:=h.below hnx (Nat.le_refl _);obtain ⟨b,off,ha,LH,hc0,hc1⟩:=hS.C9 hx;obtain rfl:a=some ⟨b,off,none⟩:=ha;have HX:Hid (m[k]? = some x):=hx;clear hx;obtain ⟨xf,xg⟩:=x;dsimp only at hc0 hc1;have hbz:b<wr.heap.size:=by have:=hnx.size;omega
   have hi1:(0:Int)≤(k:Int):=by omega
   have hi2:(k:Int)<(n:Int):=by omega
   have hdk:decide ((k:Int)<(n:Int))=true:=by simp;omega
   by_cases hg:xf≤key
   ·have hgd:decide (xf≤key)=true:=by simp;omega
    go_wp2_with fail
    go_roundw
    case rel=>exact ⟨k+1,xg,by omega,by go_num,rfl,(by show _=_;rw [HG.out,Ie HX.out,if_pos hg]),hnx⟩
    case measure=>simp [intOf];omega
   ·have hgd:decide (xf≤key)=false:=by simp;omega
    go_wp2_with fail
    go_ret
    refine ⟨?_,hnx⟩;show Ending.returned (.int .u8 g)=_;rw [HG.out,Ie HX.out,if_neg (by show ¬ xf≤key;omega)]
  ·have hdk:decide ((k:Int)<(n:Int))=false:=by simp;omega
   go_wp2
   go_ret
   refine ⟨?_,hnx⟩;show Ending.returned (.int .u8 g)=_;obtain rfl:k=n:=by omega
   rw [HG.out,HL.out,List.drop_length];rfl
end
section
open Go.RowKit Go.Lib
def yB (g lo hi:Int) (p:Pc):Bool:=(decide (lo<p.f) && decide (p.f≤hi)) && (p.g != g)
def Io (m:List Pc) (g lo hi:Int):Int:=if own 0 m lo≠g then own 0 m lo else ((m.find? (yB g lo hi)).map Pc.g).getD 0
def DK (m:List Pc) (g lo hi:Int):Bool:=if own 0 m lo≠g then true else (m.find? (yB g lo hi)).isSome
theorem K8 (w:World) (g n:Int) (vT vD vO vI:Value) (ma:Option Addr) (mn mc:Nat) (m:List Pc) (lo hi:Int) (hM:nT w ma mn mc m) :
 Calls Tryz.prog 97 #[.agg #[.int .u8 g,.int .u8 n,vT,.slice ma mn mc,vD,vO,vI],.int .u64 lo,.int .u64 hi] w fun e w'=>e=.returned (.tuple #[.int .u8 (Io m g lo hi),.bool (DK m g lo hi)])∧Below w.heap.size w w':=by
 have hlm:mn≤maxLen:=Nat.le_trans hM.le hM.max;unfold maxLen at hlm;have hl0:mn=m.length:=by simpa using hM.len
 have HL:Hid (mn=m.length):=hl0;clear hl0;obtain ⟨W,hW⟩:∃ W,W=w.alloc (.cells #[.int .u8 g,.int .u8 n,vT,.slice ma mn mc,vD,vO,vI] 31):=⟨_,rfl⟩;have fP:W.heap[w.heap.size]? = some (.cells #[.int .u8 g,.int .u8 n,vT,.slice ma mn mc,vD,vO,vI] 31):=by rw [hW];exact heap_alloc_new w _
 have bE:Below w.heap.size w W:=by rw [hW];exact aj w _
 have DL:Hid (nT W ma mn mc m):=hM.later bE;have nX:=ae fP;have dQ:=ae bE;have hw3:W.cell? ⟨w.heap.size,3,none⟩=some (.slice ma mn mc):=ah fP 3;obtain ⟨o,ho⟩:∃ o,o=own 0 m lo:=⟨_,rfl⟩;have HO:Hid (own 0 m lo=o):=ho.symm;clear hM ho fP bE;by_cases hne:o=g
 ·have hd:(o != g)=false:=by simp [hne]
  have hG:Io m g lo hi=((m.find? (yB g lo hi)).map Pc.g).getD 0:=by simp [Io,HO.out,hne]
  have hB:DK m g lo hi=(m.find? (yB g lo hi)).isSome:=by simp [DK,HO.out,hne]
  rw [hG,hB];clear hG hB hne;go_enter Tryz.func97,Tryz.ntmps97
  go_upto_region 1 with fail
  rw [← hW];clear hW;go_upto_region 4 with (go_at_call 152;go_must (refine (Ju ma mn mc m lo _ DL.out).mono ?_;rintro e w1 ⟨rfl,hb1⟩;rw [HO.out];have hc0:w1.cell? ⟨w.heap.size,0,none⟩=some (.int .u8 g):=blk hb1 nX.out 0))
  clear hc0 hw3;go_wp2_with fail
  go_loopw [9] (fun i wr=>∃ k:Nat,k≤mn∧i=.int .i64 k∧Hid (Below W.heap.size W wr)∧Hid (∀ (j:Nat) (y:Pc),j<k→m[j]? = some y→yB g lo hi y=false)) (fun i _=>mn - (intOf i).toNat)
  case atStart=>exact ⟨0,Nat.zero_le _,rfl,hb1,fun j y hj=>absurd hj (Nat.not_lt_zero _)⟩
  case round =>
   obtain ⟨k,hk,rfl,bV,HF⟩:=hrel;have hc0:wr.cell? ⟨w.heap.size,0,none⟩=some (.int .u8 g):=blk bV.out nX.out 0;have hc3:wr.cell? ⟨w.heap.size,3,none⟩=some (.slice ma mn mc):=blk bV.out nX.out 3;by_cases hlt:k<mn
   ·obtain ⟨x,hx⟩:∃ x,m[k]? = some x:=⟨m[k]'(by rw [← HL.out];omega),by simp⟩
    obtain ⟨bb,off,ha,j4,hp0,hp1⟩:=(DL.out.later bV.out).C9 hx;dsimp only at ha;subst ha;have HX:Hid (m[k]? = some x):=hx;clear hx;obtain ⟨xf,xg⟩:=x;dsimp only at hp0 hp1;have hdk:decide ((k:Int)<(mn:Int))=true:=by simp;omega
    have hi1:(0:Int)≤(k:Int):=by omega
    have hi2:(k:Int)<(mn:Int):=by omega
    by_cases h1:lo<xf
    ·have hd1:decide (lo<xf)=true:=by simp [h1]
     by_cases h2:xf≤hi
     ·have hd2:decide (xf≤hi)=true:=by simp [h2]
      by_cases h3:xg=g
      ·have hd3:(xg != g)=false:=by simp [h3]
       go_wp2_with fail
       go_quiet (fail)
       have HB1:Hid (Below W.heap.size W (wr.drewN nq)):=below_drewN bV.out _;generalize wr.drewN nq=w1 at HB1;clear hc3 hc0 hp0 hp1;go_wp2_with fail
       go_roundw
       case rel=>exact ⟨k+1,by omega,by go_num,HB1.out,fun j y hj hy=>by
        rcases Nat.lt_or_eq_of_le (Nat.le_of_lt_succ hj) with h | rfl
        ·exact HF.out j y h hy
        ·rw [HX.out] at hy;cases hy;simp [yB] <;> omega⟩
       case measure=>simp [intOf];omega
      ·have hd3:(xg != g)=true:=by simp [h3]
       go_wp2_with fail
       go_quiet (fail)
       have HB1:Hid (Below W.heap.size W (wr.drewN nq)):=below_drewN bV.out _;have ahD:(wr.drewN nq).cell? ⟨w.heap.size,3,none⟩=some (.slice (some ⟨bb,off,none⟩) mn mc):=hc3;have ahE:(wr.drewN nq).cell? ⟨bb,off+k*2+1,none⟩=some (.int .u8 xg):=hp1;generalize wr.drewN nq=w1 at HB1 ahD ahE;clear hc3 hc0 hp0 hp1;go_wp2_with fail
       go_ret2
       have hf:=Om HF.out HX.out (by simp [yB,h1,h2,h3]);exact ⟨by rw [hf];rfl,ai dQ.out HB1.out⟩
     ·have hd2:decide (xf≤hi)=false:=by simp;omega
      go_wp2_with fail
      go_quiet (fail)
      have HB1:Hid (Below W.heap.size W (wr.drewN nq)):=below_drewN bV.out _;generalize wr.drewN nq=w1 at HB1;clear hc3 hc0 hp0 hp1;go_wp2_with fail
      go_roundw
      case rel=>exact ⟨k+1,by omega,by go_num,HB1.out,fun j y hj hy=>by
       rcases Nat.lt_or_eq_of_le (Nat.le_of_lt_succ hj) with h | rfl
       ·exact HF.out j y h hy
       ·rw [HX.out] at hy;cases hy;simp [yB] <;> omega⟩
      case measure=>simp [intOf];omega
    ·have hd1:decide (lo<xf)=false:=by simp;omega
     go_wp2_with fail
     go_quiet (fail)
     have HB1:Hid (Below W.heap.size W (wr.drewN nq)):=below_drewN bV.out _;generalize wr.drewN nq=w1 at HB1;clear hc3 hc0 hp0 hp1;go_wp2_with fail
     go_roundw
     case rel=>exact ⟨k+1,by omega,by go_num,HB1.out,fun j y hj hy=>by
      rcases Nat.lt_or_eq_of_le (Nat.le_of_lt_succ hj) with h | rfl
      ·exact HF.out j y h hy
      ·rw [HX.out] at hy;cases hy;simp [yB] <;> omega⟩
     case measure=>simp [intOf];omega
   ·have hdk:decide ((k:Int)<(mn:Int))=false:=by simp;omega
    clear hc0;go_wp2_with fail
    go_ret2
    have hf:=Sd (l:=m) (f:=yB g lo hi) (fun i y hy=>HF.out i y (by have:=(mV hy);have:=HL.out;omega) hy);exact ⟨by rw [hf];rfl,ai dQ.out bV.out⟩
 ·have hd:(o != g)=true:=by simp [hne]
  go_enter Tryz.func97,Tryz.ntmps97
  go_upto_region 1 with fail
  rw [← hW];clear hW;go_wp2_with (go_at_call 152;go_must (refine (Ju ma mn mc m lo _ DL.out).mono ?_;rintro e w1 ⟨rfl,hb1⟩;rw [HO.out];have hc0:w1.cell? ⟨w.heap.size,0,none⟩=some (.int .u8 g):=blk hb1 nX.out 0))
  go_ret2
  exact ⟨by simp [Io,DK,HO.out,hne],ai dQ.out hb1⟩
theorem two (w:World) (a b:Obj):((w.alloc a).alloc b).heap[w.heap.size]? = some a∧((w.alloc a).alloc b).heap[w.heap.size+1]? = some b∧Below w.heap.size w ((w.alloc a).alloc b)∧((w.alloc a).alloc b).heap.size=w.heap.size+2:=by
 have e1:(w.alloc a).heap.size=w.heap.size+1:=by simp
 refine ⟨?_,?_,ai (aj _ _) (aj _ _),by simp⟩
 ·rw [heap_alloc_old _ _ (by omega)];exact heap_alloc_new w _
 ·rw [← e1];exact heap_alloc_new _ _
structure Sml (T:List Row) (M:List Pc) (D:List ak) (L:List ax) (I:List Int):Prop where
 t:T.length<1000000
 m:M.length<1000000
 d:D.length<1000000
 l:L.length<1000000
 i:I.length<1000000
 q:∀ x∈L,x.q.length<1000000∧∀ r∈x.q,r.rows.length<1000000∧r.bP.length<1000000
structure Frs (w w':World) (vT vM vD vO vI:Value) (T:List Row) (M:List Pc) (D:List ak) (L:List ax) (I:List Int):Prop where
 sh:∃ p:List ax,p.map ax.core=L.map ax.core∧ShM w' w.heap.size vT vM vD vO vI T M D p I
 zA:Below w.heap.size w w'
theorem Sq.shape {w w':World} {q:List aF} {v:Value} (h:Sq w q v w'):∃ a n c,v=.slice a n c:=by
 obtain ⟨⟨a,n,c⟩,_,rfl,_⟩:=h;exact ⟨a,n,c,rfl⟩
theorem LM.ahF {w w':World} {base B:Nat} {L:List ax} (h:LM w base L) (ho:Only B w w') (hB:B<base):LM w' base L:=by
 have hc:av (fun k=>k=B) w w':=av.only ho rfl;exact ⟨fun l hl=>dB (h.own l hl) hc (fun k hk e=>by have:=((h.own l hl).lt k hk).1;omega),h.aq,h.rm.dX hc (fun v hv k hk e=>by have:=(h.rm.GH hv k hk).1;omega) (fun v hv k hk e=>by have:=(h.rm.GI hv k hk).1;omega)⟩
theorem FM (w:World) (g n:Int) (vT vM vD vO vI:Value) (T:List Row) (M:List Pc) (D:List ak) (L:List ax) (I:List Int) (h:ShM w 0 vT vM vD vO vI T M D L I) (hs:Sml T M D L I) :
 Calls Tryz.prog 42 #[.agg (rW g n vT vM vD vO vI).toArray] w fun e w'=>∃ dN Dc eY DN FN,e=.returned (.agg (rW g n dN Dc eY DN FN).toArray)∧Frs w w' dN Dc eY DN FN T M D L I:=by
 obtain ⟨ta,tn,tc,rfl⟩:=aB h.oT;obtain ⟨xa,xn,xc,rfl⟩:=aB h.oM;obtain ⟨da,dn,dc,rfl⟩:=aB h.oD;obtain ⟨oa,on,oc,rfl⟩:=aB h.oO;obtain ⟨ia,il,ic,rfl⟩:=aB h.oI;obtain ⟨W,hW⟩:∃ W,W=(w.alloc (.cells (rS g n ta tn tc xa xn xc da dn dc oa on oc ia il ic).toArray 31)).alloc (.cells dS.toArray 31):=⟨_,rfl⟩;obtain ⟨hQ,hZ,bE,hWs⟩:=two w (.cells (rS g n ta tn tc xa xn xc da dn dc oa on oc ia il ic).toArray 31) (.cells dS.toArray 31);rw [← hW] at hQ hZ bE hWs;have HO:Hid (ShM w 0 (.slice ta tn tc) (.slice xa xn xc) (.slice da dn dc) (.slice oa on oc) (.slice ia il ic) T M D L I):=h;have HS:Hid (Sml T M D L I):=hs;have dQ:Hid (Below w.heap.size w W):=bE;have pR:Hid (W.heap.size=w.heap.size+2):=hWs;have HQ:Hid (W.heap[w.heap.size]? = some (.cells (rS g n ta tn tc xa xn xc da dn dc oa on oc ia il ic).toArray 31)):=hQ;have HZ:Hid (W.heap[w.heap.size+1]? = some (.cells dS.toArray 31)):=hZ;have hc:=ah hQ;clear h hs bE hQ hZ hWs;go_enter Tryz.func42,Tryz.ntmps42
 go_upto_region 1 with fail
 rw [← hW];clear hW;go_upto_region 6 with (first
  | (go_at_call 76;go_must (refine (Xc _ 0 (.slice ta tn tc) T.length (T.map Row.cells) (ay HO.out.oT dQ.out) (by simp) (Sm T) (Cg T) HS.out.t).mono ?_;rintro e bT ⟨vT,rfl,ho,hb⟩;have R5:Hid (bT.ownsRow W.heap.size 128 2 vT T.length (T.map Row.cells).flatten):=ae ho;have SH:Hid (Below W.heap.size W bT):=ae hb;have Xk:=dR ho;clear ho hb;have HQT:Hid (bT.heap[w.heap.size]? = some (.cells (rS g n ta tn tc xa xn xc da dn dc oa on oc ia il ic).toArray 31)):=ae (af SH.out HQ.out)))
  | (with_reducible show wpList _ _ _ ({ dst:=none,op:=Op.store 25 _ _,type:=_,pos:=_,after:=_,guard:=none }::_) _ _;go_must (refine cZ rfl _ _ _ rfl rfl w.heap.size 2 rfl vT rfl (by kernel_rfl) Xk (rS g n ta tn tc xa xn xc da dn dc oa on oc ia il ic) 31 HQT.out rfl [.int .u8 g,.int .u8 n,vT,.slice xa xn xc,.slice da dn dc,.slice oa on oc,.slice ia il ic] rfl ?_;intro cT hw ho;have yL:Hid (cT.heap[w.heap.size]? = some (.cells #[.int .u8 g,.int .u8 n,vT,.slice xa xn xc,.slice da dn dc,.slice oa on oc,.slice ia il ic] 31)):=ae hw;have Pp:Hid (Only w.heap.size bT cT):=ae ho;clear hw ho;have Xr:Hid (Below w.heap.size w cT):=ae ((dQ.out.trans (SH.out.mono dQ.out.size)).trans (Pp.out.below (Nat.le_refl _)));have ahG:=ah yL.out))
  | (go_at_call 77;go_must (refine (afd _ 0 (.slice xa xn xc) M.length (M.map Pc.cells) (ay HO.out.oM Xr.out) (by simp) (Zm M) (Zn M) HS.out.m).mono ?_;rintro e bM ⟨vM,rfl,ho,hb⟩;have HOM:Hid (bM.ownsRow cT.heap.size 107 2 vM M.length (M.map Pc.cells).flatten):=ae ho;have yZ:Hid (Below cT.heap.size cT bM):=ae hb;have h1M:=dR ho;clear ho hb;have HQM:Hid (bM.heap[w.heap.size]? = some (.cells #[.int .u8 g,.int .u8 n,vT,.slice xa xn xc,.slice da dn dc,.slice oa on oc,.slice ia il ic] 31)):=ae (af yZ.out yL.out)))
  | (with_reducible show wpList _ _ _ ({ dst:=none,op:=Op.store 26 _ _,type:=_,pos:=_,after:=_,guard:=none }::_) _ _;go_must (refine cZ rfl _ _ _ rfl rfl w.heap.size 3 rfl vM rfl (by kernel_rfl) h1M [.int .u8 g,.int .u8 n,vT,.slice xa xn xc,.slice da dn dc,.slice oa on oc,.slice ia il ic] 31 HQM.out rfl [.int .u8 g,.int .u8 n,vT,vM,.slice da dn dc,.slice oa on oc,.slice ia il ic] rfl ?_;intro cM hw ho;have Su:Hid (cM.heap[w.heap.size]? = some (.cells #[.int .u8 g,.int .u8 n,vT,vM,.slice da dn dc,.slice oa on oc,.slice ia il ic] 31)):=ae hw;have SI:Hid (Only w.heap.size bM cM):=ae ho;clear hw ho;have HBM:Hid (Below w.heap.size w cM):=ae ((Xr.out.trans (yZ.out.mono Xr.out.size)).trans (SI.out.below (Nat.le_refl _)));have ahH:=ah Su.out))
  | (go_at_call 78;go_must (refine (Xe _ 0 (.slice da dn dc) D.length (D.map ak.cells) (ay HO.out.oD HBM.out) (by simp) (Sn D) (FD D) HS.out.d).mono ?_;rintro e bD ⟨vD,rfl,ho,hb⟩;have MW:Hid (bD.ownsRow cM.heap.size 57 7 vD D.length (D.map ak.cells).flatten):=ae ho;have Jb:Hid (Below cM.heap.size cM bD):=ae hb;have Xm:=dR ho;clear ho hb;have HQD:Hid (bD.heap[w.heap.size]? = some (.cells #[.int .u8 g,.int .u8 n,vT,vM,.slice da dn dc,.slice oa on oc,.slice ia il ic] 31)):=ae (af Jb.out Su.out)))
  | (with_reducible show wpList _ _ _ ({ dst:=none,op:=Op.store 27 _ _,type:=_,pos:=_,after:=_,guard:=none }::_) _ _;go_must (refine cZ rfl _ _ _ rfl rfl w.heap.size 4 rfl vD rfl (by kernel_rfl) Xm [.int .u8 g,.int .u8 n,vT,vM,.slice da dn dc,.slice oa on oc,.slice ia il ic] 31 HQD.out rfl [.int .u8 g,.int .u8 n,vT,vM,vD,.slice oa on oc,.slice ia il ic] rfl ?_;intro cD hw ho;have vk:Hid (cD.heap[w.heap.size]? = some (.cells #[.int .u8 g,.int .u8 n,vT,vM,vD,.slice oa on oc,.slice ia il ic] 31)):=ae hw;have Pq:Hid (Only w.heap.size bD cD):=ae ho;clear hw ho;have HBD:Hid (Below w.heap.size w cD):=ae ((HBM.out.trans (Jb.out.mono HBM.out.size)).trans (Pq.out.below (Nat.le_refl _)));have ahI:=ah vk.out))
  | (go_at_call 79;go_must (refine (acQ _ 0 (.slice ia il ic) I.length (I.map yA) (ay HO.out.oI HBD.out) (by simp) (Sy I) (Ph I) HS.out.i).mono ?_;rintro e bI ⟨vI,rfl,ho,hb⟩;have HOI:Hid (bI.ownsRow cD.heap.size 47 1 vI I.length (I.map yA).flatten):=ae ho;have La:Hid (Below cD.heap.size cD bI):=ae hb;have h1I:=dR ho;clear ho hb;have HQI:Hid (bI.heap[w.heap.size]? = some (.cells #[.int .u8 g,.int .u8 n,vT,vM,vD,.slice oa on oc,.slice ia il ic] 31)):=ae (af La.out vk.out)))
  | (with_reducible show wpList _ _ _ ({ dst:=none,op:=Op.store 29 _ _,type:=_,pos:=_,after:=_,guard:=none }::_) _ _;go_must (refine cZ rfl _ _ _ rfl rfl w.heap.size 6 rfl vI rfl (by kernel_rfl) h1I [.int .u8 g,.int .u8 n,vT,vM,vD,.slice oa on oc,.slice ia il ic] 31 HQI.out rfl [.int .u8 g,.int .u8 n,vT,vM,vD,.slice oa on oc,vI] rfl ?_;intro cI hw ho;have HRI:Hid (cI.heap[w.heap.size]? = some (.cells #[.int .u8 g,.int .u8 n,vT,vM,vD,.slice oa on oc,vI] 31)):=ae hw;have Jv:Hid (Only w.heap.size bI cI):=ae ho;clear hw ho;have Xt:Hid (Below w.heap.size w cI):=ae ((HBD.out.trans (La.out.mono HBD.out.size)).trans (Jv.out.below (Nat.le_refl _)));have ahJ:=ah HRI.out))
  | (go_at_call 80;go_must (refine (abE _ 0 (.slice oa on oc) L.length (L.map ax.cells) (ay HO.out.oO Xt.out) (by simp) (Sw L) (Pf L) HS.out.l).mono ?_;rintro e bO ⟨vO,rfl,ho,hb⟩;have AZ:Hid (bO.ownsRow cI.heap.size 103 2 vO L.length (L.map ax.cells).flatten):=ae ho;have Xu:Hid (Below cI.heap.size cI bO):=ae hb;have h1O:=dR ho;clear ho hb;have HQO:Hid (bO.heap[w.heap.size]? = some (.cells #[.int .u8 g,.int .u8 n,vT,vM,vD,.slice oa on oc,vI] 31)):=ae (af Xu.out HRI.out)))
  | (with_reducible show wpList _ _ _ ({ dst:=none,op:=Op.store 28 _ _,type:=_,pos:=_,after:=_,guard:=none }::_) _ _;go_must (refine cZ rfl _ _ _ rfl rfl w.heap.size 5 rfl vO rfl (by kernel_rfl) h1O [.int .u8 g,.int .u8 n,vT,vM,vD,.slice oa on oc,vI] 31 HQO.out rfl (rW g n vT vM vD vO vI) rfl ?_;intro cO hw ho;have HRO:Hid (cO.heap[w.heap.size]? = some (.cells (rW g n vT vM vD vO vI).toArray 31)):=ae hw;have Nn:Hid (Only w.heap.size bO cO):=ae ho;clear hw ho;have Xv:Hid (Below w.heap.size w cO):=ae ((Xt.out.trans (Xu.out.mono Xt.out.size)).trans (Nn.out.below (Nat.le_refl _)));have ahK:=ah HRO.out)))
 obtain ⟨DR,on9,Ci,rfl⟩:=aB AZ.out;obtain rfl:=pO AZ.out;have hszI:w.heap.size<cI.heap.size:=(df HRI.out);have hszW:=pR.out;have hLl:=HS.out.l;have hsz2:w.heap.size+2≤cI.heap.size:=by have a:=SH.out.size;have b:=Pp.out.size;have c:=yZ.out.size;have d:=SI.out.size;have e:=Jb.out.size;have f:=Pq.out.size;have g:=La.out.size;have h:=Jv.out.size;omega
 have SK:∀ k,Value.ownBlock (.slice DR L.length Ci)=some k→cI.heap.size≤k:=fun k hk=>(AZ.out.lt k hk).1
 have HOC:Hid (cO.ownsRow cI.heap.size 103 2 (.slice DR L.length Ci) L.length (L.map ax.cells).flatten):=dB AZ.out (av.only (A:=fun k=>k=w.heap.size) Nn.out rfl) (fun k hk e=>by have:=SK k hk;omega);have Ab:Hid (∀ w',av (fun j=>Value.ownBlock (.slice DR L.length Ci)=some j) cO w'→w'.heap[w.heap.size]? = some (.cells #[.int .u8 g,.int .u8 n,vT,vM,vD,.slice DR L.length Ci,vI] 31)):=fun w' hb=>nQ HRO.out hb (fun e=>by have:=SK _ e;omega)
 have h7:[.int .u8 g,.int .u8 n,vT,vM,vD,.slice DR L.length Ci,vI].all (·.oneCell')=true:=by
  rw [List.all_eq_true];intro u hu;simp only [List.mem_cons,List.not_mem_nil,or_false] at hu;rcases hu with rfl | rfl | rfl | rfl | rfl | rfl | rfl <;> first | rfl | assumption
 clear ahG ahH ahI ahJ;go_wp2_with fail
 go_loopw [28] (fun i wr=>∃ (k:Nat) (p:List ax),k≤L.length∧i=.int .i64 k∧Hid (Oq cI.heap.size cO wr L p k (.slice DR L.length Ci))) (fun i _=>L.length - (intOf i).toNat)
 case atStart=>exact ⟨0,[],Nat.zero_le _,rfl,⟨rfl,rfl,HOC.out,LM.nil _ _,av.refl _ _⟩⟩
 case round =>
  clear ahK;obtain ⟨k,p,hk,rfl,HF⟩:=hrel;have alI:=ah (Ab.out wr HF.out.dX);by_cases hlt:k<L.length
  ·have hdk:decide ((k:Int)<(L.length:Int))=true:=by simp;omega
   obtain ⟨l,hr⟩:∃ l,L[k]? = some l:=⟨L[k]'hlt,by simp⟩;obtain ⟨gO,cap,cur,hv,hbg,hg,hnl,hcl,hnc,hcm,htk,_,hput⟩:=kS HF.out.own (by omega);simp only [Value.slice.injEq] at hv;obtain ⟨rfl,_,rfl⟩:=hv;have hd:L.drop k=l::L.drop (k+1):=by
    rw [List.drop_eq_getElem_cons hlt];congr 1
    exact (List.getElem?_eq_some_iff.1 hr).2
   have hat:(p++L.drop k)[k]? = some l:=by rw [List.getElem?_append_right (by rw [HF.out.len];exact Nat.le_refl _),HF.out.len,hd];simp
   have hll:(p++L.drop k).length=L.length:=by simp [HF.out.len];omega
   have HG:Hid (wr.heap[gO]? = some (.cells cur.toArray 103)):=hg;have ho0:wr.cell? ⟨gO,k*2,none⟩=some (.int .u32 l.next):=by rw [ah hg];simpa using qM zu (j:=0) hat rfl htk hll
   have ho1:wr.cell? ⟨gO,k*2+1,none⟩=some l.qs.val:=by rw [ah hg];simpa using qM zu (j:=1) hat rfl htk hll
   have Aa:Hid (L[k]? = some l):=hr;have hmem:=List.mem_of_getElem? hr;have HSQ:Hid (w.ownsRow 0 52 7 l.qs.val l.q.length (l.q.map aF.cells).flatten):=HO.out.ln.own l hmem;have Jp:Hid (RM w 0 l.q):=by
    have a:=HO.out.ln.rm;have sub:l.q.Sublist (mH L):=by
     obtain ⟨x,y,hxy⟩:=List.append_of_mem hmem;rw [hxy];unfold mH;rw [List.flatMap_append,List.flatMap_cons];exact (List.sublist_append_left _ _).trans (List.sublist_append_right _ _)
    exact ⟨fun r hr=>a.rows r (sub.subset hr),fun r hr=>a.bP r (sub.subset hr),a.ar.sublist (sub.map _),a.ad.sublist (sub.map _)⟩
   have HSL:=ae (HS.out.q l hmem);have Jq:gO<wr.heap.size:=(df hg);have hi1:(0:Int)≤(k:Int):=by omega
   have hi2:(k:Int)<(L.length:Int):=by omega
   have SL:Hid (Below w.heap.size w wr):=Xv.out.trans (HF.out.dX.below (fun j hj=>⟨Nat.lt_of_lt_of_le hj Xv.out.size,fun e=>by have:=SK j e;omega⟩));clear hd hat hll hput htk hr hg hnc hcm hcl hmem;obtain ⟨bz,⟨la,lnn,lc⟩,lq⟩:=l;dsimp only [Sl.val] at ho0 ho1;have ahL:Hid (w.ownsRow 0 52 7 (.slice la lnn lc) lq.length (lq.map aF.cells).flatten):=HSQ.out;have Zl:Hid (RM w 0 lq):=Jp.out;have adi:Hid (lq.length<1000000∧∀ r∈lq,r.rows.length<1000000∧r.bP.length<1000000):=HSL.out;clear HSQ Jp HSL;go_wp2_with fail
   have alJ:wr.cell? ⟨w.heap.size,5,none⟩=some (.slice (some ⟨gO,0,none⟩) L.length Ci):=ah (Ab.out wr HF.out.dX) 5;have hlt2:w.heap.size<wr.heap.size:=(df (Ab.out wr HF.out.dX));go_region_with (go_at_call 81;refine (acU _ 0 (.slice la lnn lc) lq (ay ahL.out (ai SL.out (aj wr _).drew)) (Zl.out.later (ai SL.out (aj wr _).drew)) adi.out.1 adi.out.2).mono ?_;rintro e w1 ⟨v1,rfl,hq1,hb1⟩;obtain ⟨sa,sn,sc,rfl⟩:=Sq.shape hq1;have pz:=ae hq1;have HB1:Hid (Below wr.heap.size wr w1):=ae (ai (aj wr _).drew hb1);have alK:w1.cell? ⟨gO,k*2+1,none⟩=some (.slice la lnn lc):=(HB1.out.cell (p:=⟨gO,k*2+1,none⟩) Jq).trans ho1;have alL:w1.cell? ⟨w.heap.size,5,none⟩=some (.slice (some ⟨gO,0,none⟩) L.length Ci):=ah (af HB1.out (Ab.out wr HF.out.dX)) 5;have alM:w1.frozen? ⟨gO,k*2+1,none⟩=false:=oh (Below.refl _ w1) (af HB1.out HG.out) (k*2+1))
   all_goals (
    go_wp2_with fail
    go_roundw
    case rel=>exact ⟨k+1,_,by omega,by go_num,Oq.step (wx:=(wr.alloc (.cells #[.int .u32 bz,.slice la lnn lc] 103)).drew) HF.out Aa.out HB1.out (aj wr _).drew.size pz.out⟩
    case measure=>simp [intOf];omega)
  ·have hdk:decide ((k:Int)<(L.length:Int))=false:=by simp;omega
   have hkL:k=L.length:=by omega
   have HZr:Hid (wr.heap[w.heap.size+1]? = some (.cells dS.toArray 31)):=by
    show _=_;have z1:=(Pp.out.block _ (by omega)).trans (af SH.out HZ.out);have z2:=(SI.out.block _ (by omega)).trans (af yZ.out z1);have z3:=(Pq.out.block _ (by omega)).trans (af Jb.out z2);have z4:=(Jv.out.block _ (by omega)).trans (af La.out z3);have z5:=(Nn.out.block _ (by omega)).trans (af Xu.out z4);exact nQ z5 HF.out.dX (fun e=>by have:=SK _ e;omega)
   go_wp2_with (first
    | (with_reducible show cB 42 31 ..;go_must (refine dF w.heap.size 0 7 fE [.int .u8 g,.int .u8 n,vT,vM,vD,.slice DR L.length Ci,vI] 31 (Ab.out wr HF.out.dX) [.int .u8 g,.int .u8 n,vT,vM,vD,.slice DR L.length Ci,vI] ?_))
    | (with_reducible show wpList _ _ _ ({ dst:=none,op:=Op.store 31 _ _,type:=_,pos:=_,after:=_,guard:=none }::_) _ _;go_must (refine eu rfl _ _ _ rfl rfl (w.heap.size+1) 0 rfl [.int .u8 g,.int .u8 n,vT,vM,vD,.slice DR L.length Ci,vI] rfl _ (by kernel_rfl) rfl h7 dS 31 HZr.out rfl [.int .u8 g,.int .u8 n,vT,vM,vD,.slice DR L.length Ci,vI] rfl ?_;intro w9 hw ho;have HW9:Hid (w9.heap[w.heap.size+1]? = some (.cells #[.int .u8 g,.int .u8 n,vT,vM,vD,.slice DR L.length Ci,vI] 31)):=ae hw;have fo:Hid (Only (w.heap.size+1) wr w9):=ae ho;clear hw ho)))
   refine bodyPost_ret (v:=.agg #[.int .u8 g,.int .u8 n,vT,vM,vD,.slice DR L.length Ci,vI]) (results_cell_row Tryz.results42 _ _ (w.heap.size+1) 31 _ (0,0) _ rfl HW9.out fE rfl (by kernel_rfl)) rfl ⟨_,_,_,_,_,rfl,⟨p,?_,?_⟩,?_⟩
   ·rw [HF.out.core,hkL,List.take_length]
   ·have c9:av (fun j=>j=w.heap.size∨j=w.heap.size+1∨Value.ownBlock (.slice DR L.length Ci)=some j) cO w9:=(HF.out.dX.mono (fun j _ h=>.inr (.inr h))).trans (av.only fo.out (.inr (.inl rfl)))
    have cO9:=(av.only Nn.out (.inl rfl)).trans c9;have cI9:=(av.only Jv.out (.inl rfl)).trans ((av.later Xu.out).trans cO9);have cD9:=(av.only Pq.out (.inl rfl)).trans ((av.later La.out).trans cI9);have cM9:=(av.only SI.out (.inl rfl)).trans ((av.later Jb.out).trans cD9);have cT9:=(av.only Pp.out (.inl rfl)).trans ((av.later yZ.out).trans cM9);have sT:bT.heap.size≤cI.heap.size:=by have b:=Pp.out.size;have c:=yZ.out.size;have d:=SI.out.size;have e:=Jb.out.size;have f:=Pq.out.size;have g:=La.out.size;have h:=Jv.out.size;omega
    have sM:bM.heap.size≤cI.heap.size:=by have d:=SI.out.size;have e:=Jb.out.size;have f:=Pq.out.size;have g:=La.out.size;have h:=Jv.out.size;omega
    have sD:bD.heap.size≤cI.heap.size:=by have f:=Pq.out.size;have g:=La.out.size;have h:=Jv.out.size;omega
    have sI:bI.heap.size≤cI.heap.size:=by have h:=Jv.out.size;omega
    have uT:W.heap.size≤cT.heap.size:=by have b:=Pp.out.size;have c:=SH.out.size;omega
    have uM:W.heap.size≤cM.heap.size:=by have b:=SI.out.size;have c:=yZ.out.size;omega
    have uD:W.heap.size≤cD.heap.size:=by have b:=Pq.out.size;have c:=Jb.out.size;omega
    have uI:cI.heap.size≤cO.heap.size:=by have b:=Nn.out.size;have c:=Xu.out.size;omega
    have no:∀ {v:Value} {a b:Nat},(∀ k,v.ownBlock=some k→a≤k∧k<b)→W.heap.size≤a→b≤cI.heap.size→∀ k,v.ownBlock=some k→¬ (k=w.heap.size∨k=w.heap.size+1∨Value.ownBlock (.slice DR L.length Ci)=some k):=by
     rintro v a b hv ha hb k hk (e | e | e)
     ·have:=hv k hk;omega
     ·have:=hv k hk;omega
     ·have:=hv k hk;have:=SK k e;omega
    have eT:=dE (base':=w.heap.size) (dB R5.out cT9 (no R5.out.lt (Nat.le_refl _) sT)) (by omega);have eM:=dE (base':=w.heap.size) (dB HOM.out cM9 (no HOM.out.lt uT sM)) (by omega);have eD:=dE (base':=w.heap.size) (dB MW.out cD9 (no MW.out.lt uM sD)) (by omega);have eI:=dE (base':=w.heap.size) (dB HOI.out cI9 (no HOI.out.lt uD sI)) (by omega);have hlp:p.length=L.length:=by rw [HF.out.len,hkL]
    have eO:w9.ownsRow w.heap.size 103 2 (.slice DR L.length Ci) p.length (p.map ax.cells).flatten:=by
     have a:=HF.out.own;rw [hkL,List.drop_length,List.append_nil] at a;rw [hlp];exact dE (dB a (av.only (A:=fun k=>k=w.heap.size+1) fo.out rfl) (fun j hj e=>by have:=SK j hj;omega)) (by omega)
    have eL:LM w9 cO.heap.size p:=HF.out.lm.ahF fo.out (by omega);exact ⟨eT,eM,eD,eO,eI,eL.mono Xv.out.size,fun v hv=>gV.lt (B:=cI.heap.size) (fun j hj=>Nat.lt_of_lt_of_le (R5.out.lt j hj).2 sT) (fun j hj=>Nat.le_trans uI (eL.rm.GH hv j hj).1),fun v hv=>gV.lt (B:=cI.heap.size) (fun j hj=>Nat.lt_of_lt_of_le (MW.out.lt j hj).2 sD) (fun j hj=>Nat.le_trans uI (eL.rm.GI hv j hj).1)⟩
   ·exact (Xv.out.trans (HF.out.dX.below (fun j hj=>⟨Nat.lt_of_lt_of_le hj Xv.out.size,fun e=>by have:=SK j e;omega⟩))).trans (fo.out.below (Nat.le_succ _))
end
end Go.Proofs.YtignemioillaiaaGreat
