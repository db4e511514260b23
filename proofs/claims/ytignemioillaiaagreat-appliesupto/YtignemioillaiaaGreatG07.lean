/- Package ranges: ahead, behind. -/
import Derived.Test.YtignemioillaiaaGreatG06
import Derived.Test.YtignemioillaiaaGreatG05
import Derived.Deep.CutRange
namespace Go.Proofs.YtignemioillaiaaGreat
set_option maxHeartbeats 8000000
set_option maxRecDepth 100000
section
open Go.RowKit
theorem KV {m:List Pc} {k:Nat} {x:Pc} (P:Pc→Bool) (hx:m[k]? = some x):(m.take (k+1)).filter P=if P x then (m.take k).filter P++[x] else (m.take k).filter P:=by
 rw [List.take_add_one,hx];simp only [Option.toList_some,List.filter_append,List.filter_cons,List.filter_nil];split <;> simp
theorem VU {m:List Pc} {k:Nat} (P:Pc→Bool):((m.take k).filter P).length≤m.length:=by
 have h1:=List.length_filter_le P (m.take k);have h2:(m.take k).length≤m.length:=by simp [List.length_take];omega
 omega
theorem VV (a:Option Addr) (n c:Nat) (m:List Pc) (lo:Int) (w:World) (h:nT w a n c m) (hm:m.length≤1000) :
 Calls Tryz.prog 148 #[.slice a n c,.int .u64 lo] w fun e w'=>∃ v',e=.returned v'∧nP w.heap.size w' v' (m.filter (fun p=>decide (p.f<lo)))∧Below w.heap.size w w':=by
 obtain ⟨i0,hi,hz0,hz1,hz2⟩:=info_parts KA;have hlen:n=m.length:=by simpa using h.len
 have hlm:n≤1000:=by omega
 have HL:Hid (n=m.length):=hlen;clear hlen;go_enter Tryz.func148,Tryz.ntmps148
 go_wp2
 go_loopw [5,10] (fun vb i wr=>∃ k:Nat,k≤n∧i=.int .i64 k∧nP w.heap.size wr vb ((m.take k).filter (fun p=>decide (p.f<lo)))∧Below w.heap.size w wr) (fun _ i _=>n - (intOf i).toNat)
 case atStart=>exact ⟨0,Nat.zero_le _,rfl,Ib _ _,Below.refl _ _⟩
 case round =>
  obtain ⟨k,hk,rfl,hor,hnx⟩:=hrel;by_cases hlt:k<n
  ·obtain ⟨x,hx⟩:∃ x,m[k]? = some x:=⟨m[k]'(by rw [← HL.out];exact hlt),by simp⟩
   have hS:=h.below hnx (Nat.le_refl _);obtain ⟨b,off,ha,j4,hc⟩:=hS.el (i:=k) (x:=x.cells) (by simp [hx]);obtain rfl:a=some ⟨b,off,none⟩:=ha;have HX:Hid (m[k]? = some x):=hx;have HN:Hid ((((m.take k).filter (fun p=>decide (p.f<lo))).length)≤1000):=Nat.le_trans (VU _) hm;clear hx;obtain ⟨xf,xg⟩:=x;simp only [Pc.cells] at hc;have hbr:w.heap.size≤wr.heap.size:=hnx.size;have hi1:(0:Int)≤(k:Int):=by omega
   have hi2:(k:Int)<(n:Int):=by omega
   have hW:=heap_alloc_new wr (.cells #[.int .u64 0,.int .u8 0] 107);have qZ:=qF hor (.cells #[.int .u64 0,.int .u8 0] 107);have W9:=hnx.trans (Below.mono (aj wr (.cells #[.int .u64 0,.int .u8 0] 107)) hnx.size);by_cases hg:xf<lo
   ·go_wp2_with (first | (with_reducible show cB 13 107 ..;go_must (refine bB rfl _ _ rfl b (off+k*2) rfl 2 _ FC rfl MX [.int .u64 xf,.int .u8 xg] rfl hc ?_)) | (with_reducible show wpList _ _ _ ({ dst:=_,op:=Op.store 107 _ _,type:=_,pos:=_,after:=_,guard:=none }::_) _ _;go_must (refine fH wr.heap.size 0 [.int .u64 xf,.int .u8 xg] _ _ _ hW [.int .u64 xf,.int .u8 xg] ?_;intro w2 hW2 hO2;have ho2:=FI qZ hO2 hor.ne;have hn2:=W9.trans (hO2.below hbr);have hs2:w2.heap.size=wr.heap.size+1:=(by rw [hO2.size];simp);have hB2:=ah hW2)) | (with_reducible show cB 19 107 ..;go_must (refine dF wr.heap.size 0 2 FC _ _ hW2 [.int .u64 xf,.int .u8 xg] ?_)) | (at_builtin;go_must (refine aZ _ rfl _ _ 26 rfl w.heap.size 107 i0 (.agg #[.int .u64 0,.int .u8 0]) 2 16 Lv hi hz0 hz1 hz2 rfl (by decide) _ _ _ rfl (qF ho2 _) _ 1 1 [.int .u64 xf,.int .u8 xg] rfl rfl ?_ ?_ ?_ ?_ ?_ ?_)))
    case refine_1=>exact MZ hs2.symm
    case refine_2=>exact KD xf xg
    case refine_3=>unfold maxLen;have:=HN.out;omega
    case refine_4=>have:=HN.out;omega
    case refine_5=>simp;omega
    intro v' w3 ho3 hg3;go_wp2
    go_roundw
    case rel =>
     refine ⟨k+1,by omega,by go_num,Aq (FJ ho3) ?_,?_⟩
     ·rw [KV _ HX.out,if_pos (by simpa using hg)]
     ·exact hn2.trans ((Below.mono (aj w2 _) (by omega)).trans ((hg3.DF (qF ho2 _) (by simp;omega)).mono (Nat.le_refl _)))
    case measure=>simp [intOf];omega
   ·go_wp2_with (first | (with_reducible show cB 13 107 ..;go_must (refine bB rfl _ _ rfl b (off+k*2) rfl 2 _ FC rfl MX [.int .u64 xf,.int .u8 xg] rfl hc ?_)) | (with_reducible show wpList _ _ _ ({ dst:=_,op:=Op.store 107 _ _,type:=_,pos:=_,after:=_,guard:=none }::_) _ _;go_must (refine fH wr.heap.size 0 [.int .u64 xf,.int .u8 xg] _ _ _ hW [.int .u64 xf,.int .u8 xg] ?_;intro w2 hW2 hO2;have ho2:=FI qZ hO2 hor.ne;have hn2:=W9.trans (hO2.below hbr);have hB2:=ah hW2)))
    go_roundw
    case rel =>
     refine ⟨k+1,by omega,by go_num,Aq ho2 ?_,hn2⟩;rw [KV _ HX.out,if_neg (by simpa using hg)]
    case measure=>simp [intOf];omega
  ·go_wp2
   go_ret
   obtain rfl:k=n:=by omega
   refine ⟨_,rfl,Aq hor ?_,hnx⟩;rw [HL.out,List.take_length]
theorem bQ.up {B B':Nat} {w:World} {s:Sl} {size:Nat} {xs:List (List Value)} (h:bQ B w s size xs) (hB:B≤B'):bQ B' w s size xs :=
 ⟨h.len,h.le,h.max,fun h0=>by
  obtain ⟨b,off,ha,hlt,hc⟩:=h.at' h0;exact ⟨b,off,ha,by omega,hc⟩⟩
theorem O7 {m:List Pc} {k:Nat} {x:Pc} (f:List Pc→Pc→List Pc) (L:List Pc) (hx:m[k]? = some x):(m.take (k+1)).foldl f L=f ((m.take k).foldl f L) x:=by
 rw [List.take_add_one,hx];simp only [Option.toList_some,List.foldl_append,List.foldl_cons,List.foldl_nil]
theorem Zj {m:List Pc} {k:Nat} {hi:Int} {L:List Pc} (hL:L.length≤2000) (hm:m.length≤1000):((m.take k).foldl (pK hi) L).length≤3000:=by
 have h1:=U0 hi (m.take k) L;have h2:(m.take k).length≤m.length:=by simp [List.length_take];omega
 omega
theorem VW (base:Nat) (a:Option Addr) (n c:Nat) (m:List Pc) (hi:Int) (v:Value) (L:List Pc) (w:World) (h:bQ base w ⟨a,n,c⟩ 2 (m.map Pc.cells)) (hb0:base≤w.heap.size) (hown:nP base w v L) (hm:m.length≤1000) (hL:L.length≤1001) (oV:Can m) (h0:0≤hi) (h1:hi<18446744073709551616) :
 Calls Tryz.prog 146 #[.slice a n c,.int .u64 hi,v] w fun e w'=>∃ v',e=.returned v'∧nP base w' v' (Ol m hi L)∧Below base w w':=by
 have hlen:n=m.length:=by simpa using h.len
 have hlm:n≤1000:=by omega
 have HL:Hid (n=m.length):=hlen;clear hlen;by_cases hmax:hi=18446744073709551615
 ·subst hmax
  go_enter Tryz.func146,Tryz.ntmps146
  go_wp2
  go_ret
  exact ⟨_,rfl,hown,Below.refl _ _⟩
 obtain ⟨p,hp⟩:∃ x,m[0]? = some x:=by
  cases m with
  | nil=>exact oV.elim
  | cons p t=>exact ⟨p,rfl⟩
 have hmx:(hi == 18446744073709551615)=false:=by simp [hmax]
 have hh:hi+1<18446744073709551616:=by omega
 have hB:Ol m hi L=m.foldl (pK hi) (join L ⟨hi+1,own p.g m (hi+1)⟩):=by unfold Ol;rw [if_neg hmax,UY oV (hi+1) (by omega) 0 p.g]
 have hj:=Ah L ⟨hi+1,own p.g m (hi+1)⟩;have HC:Hid (m[0]? = some p):=hp;rw [hB];clear hB hp oV hmax;generalize hog:own p.g m (hi+1)=og at hj ⊢;go_enter Tryz.func146,Tryz.ntmps146
 go_wp2_with (first | (go_at_call 130;go_must (refine (Nb _ _ _ m _ p HC.out _ (h.up hb0)).mono ?_;rintro e w1 ⟨rfl,hb1⟩;rw [hog];have ho1:=Ic hown hb1)) | (go_at_call 147;go_must (refine (LJ base _ _ _ _ _ ho1 (Nat.le_trans hb0 hb1.size) (by omega)).mono ?_;rintro e w2 ⟨v2,rfl,ho2,hg2⟩)))
 have hn2:Below base w w2:=(hb1.mono hb0).trans (hg2.DF ho1 (Nat.le_trans hb0 hb1.size));generalize hL1:join L ⟨hi+1,og⟩=L1 at ho2 hj ⊢;go_loopw [2,23] (fun vb i wr=>∃ k:Nat,k≤n∧i=.int .i64 k∧nP base wr vb ((m.take k).foldl (pK hi) L1)∧Below base w wr∧base≤wr.heap.size) (fun _ i _=>n - (intOf i).toNat)
 case atStart=>exact ⟨0,Nat.zero_le _,rfl,ho2,hn2,Nat.le_trans hb0 (Nat.le_trans hb1.size hg2.grown.size)⟩
 case round =>
  obtain ⟨k,hk,rfl,hor,hnx,hbr⟩:=hrel;by_cases hlt:k<n
  ·obtain ⟨x,hx⟩:∃ x,m[k]? = some x:=⟨m[k]'(by rw [← HL.out];exact hlt),by simp⟩
   have hS:=h.below hnx (Nat.le_refl _);obtain ⟨b,off,ha,j4,hc⟩:=hS.el (i:=k) (x:=x.cells) (by simp [hx]);obtain rfl:a=some ⟨b,off,none⟩:=ha;have HX:Hid (m[k]? = some x):=hx;have HN:Hid (((m.take k).foldl (pK hi) L1).length≤3000):=Zj (by omega) hm;clear hx;obtain ⟨xf,xg⟩:=x;simp only [Pc.cells] at hc;have hi1:(0:Int)≤(k:Int):=by omega
   have hi2:(k:Int)<(n:Int):=by omega
   have hW:=heap_alloc_new wr (.cells #[.int .u64 0,.int .u8 0] 107);have qZ:=qF hor (.cells #[.int .u64 0,.int .u8 0] 107);have W9:=hnx.trans (Below.mono (aj wr (.cells #[.int .u64 0,.int .u8 0] 107)) hbr);by_cases hg:hi<xf
   ·go_wp2_with (first | (with_reducible show cB 26 107 ..;go_must (refine bB rfl _ _ rfl b (off+k*2) rfl 2 _ FC rfl MX [.int .u64 xf,.int .u8 xg] rfl hc ?_)) | (with_reducible show wpList _ _ _ ({ dst:=_,op:=Op.store 107 _ _,type:=_,pos:=_,after:=_,guard:=none }::_) _ _;go_must (refine fH wr.heap.size 0 [.int .u64 xf,.int .u8 xg] _ _ _ hW [.int .u64 xf,.int .u8 xg] ?_;intro w3 hW3 hO3;have ho3:=FI qZ hO3 hor.ne;have KW:=W9.trans (hO3.below hbr);have hs3:w3.heap.size=wr.heap.size+1:=(by rw [hO3.size];simp);have hB3:=ah hW3)) | (with_reducible show cB 32 107 ..;go_must (refine dF wr.heap.size 0 2 FC _ _ hW3 [.int .u64 xf,.int .u8 xg] ?_)) | (go_at_call 147;go_must (refine (LJ base _ _ _ _ _ ho3 (by omega) (by have:=HN.out;omega)).mono ?_;rintro e w4 ⟨v4,rfl,Bl,hg4⟩)))
    go_roundw
    case rel =>
     refine ⟨k+1,by omega,by go_num,Aq Bl ?_,?_,?_⟩
     ·rw [O7 _ _ HX.out];unfold pK;exact (if_pos hg).symm
     ·exact KW.trans (hg4.DF ho3 (by omega))
     ·have:=hg4.grown.size;omega
    case measure=>simp [intOf];omega
   ·go_wp2_with (first | (with_reducible show cB 26 107 ..;go_must (refine bB rfl _ _ rfl b (off+k*2) rfl 2 _ FC rfl MX [.int .u64 xf,.int .u8 xg] rfl hc ?_)) | (with_reducible show wpList _ _ _ ({ dst:=_,op:=Op.store 107 _ _,type:=_,pos:=_,after:=_,guard:=none }::_) _ _;go_must (refine fH wr.heap.size 0 [.int .u64 xf,.int .u8 xg] _ _ _ hW [.int .u64 xf,.int .u8 xg] ?_;intro w3 hW3 hO3;have ho3:=FI qZ hO3 hor.ne;have KW:=W9.trans (hO3.below hbr);have hs3:w3.heap.size=wr.heap.size+1:=(by rw [hO3.size];simp);have hB3:=ah hW3)))
    go_roundw
    case rel =>
     refine ⟨k+1,by omega,by go_num,Aq ho3 ?_,KW,by omega⟩;rw [O7 _ _ HX.out];unfold pK;exact (if_neg hg).symm
    case measure=>simp [intOf];omega
  ·go_wp2
   go_ret
   obtain rfl:k=n:=by omega
   refine ⟨_,rfl,Aq hor ?_,hnx⟩;rw [HL.out,List.take_length,← hL1]
theorem O8 {w:World} {base base':Nat} {v:Value} {l:List Pc} (h:nP base w v l) (hb:base'≤base):nP base' w v l :=
 ⟨h.1,h.2.imp id fun ⟨g,cap,cur,h1,h2,h3⟩=>⟨g,cap,cur,h1,Nat.le_trans hb h2,h3⟩⟩
theorem Zk {m:List Pc} (h:Can m):∃ p,m[0]? = some p:=by
 cases m with
 | nil=>exact h.elim
 | cons p t=>exact ⟨p,rfl⟩
theorem LK (a:Option Addr) (n c:Nat) (m:List Pc) (key:Int) (w:World) (h:nT w a n c m) (Jn:nM m=true) (oV:Can m) (hk:0≤key) :
 Calls Tryz.prog 75 #[.slice a n c,.int .u64 key] w fun e w'=>e=.returned (.tuple #[.int .u8 (own 0 m key),.int .i64 0])∧Below w.heap.size w w':=by
 obtain ⟨p,hp⟩:=Zk oV;rw [UY oV key hk 0 p.g];have HC:Hid (m[0]? = some p):=hp;clear hp oV;go_enter Tryz.func75,Tryz.ntmps75
 go_wp2_with (first | (go_at_call 129;go_must (refine (O5 _ _ _ m _ h).mono ?_;rintro e w1 ⟨rfl,hb1⟩;rw [Jn])) | (go_at_call 130;go_must (refine (Nb _ _ _ m _ p HC.out _ (h.later hb1)).mono ?_;rintro e w2 ⟨rfl,hb2⟩)))
 go_ret2
 exact ⟨rfl,ai hb1 hb2⟩
def qW (L:List Pc):Int:=if 1000<L.length then 3 else 0
def qG (L:List Pc):List Pc:=if 1000<L.length then [] else L
theorem Xa {m:List Pc} {lo hi g:Int} (hm:m.length≤1000):(dG m lo hi g).length≤3000:=by
 have h1:=List.length_filter_le (fun p:Pc=>decide (p.f<lo)) m;have h2:=Ah (m.filter (fun p=>decide (p.f<lo))) ⟨lo,g⟩;unfold dG Ol;split
 ·omega
 ·have h3:=Ah (join (m.filter (fun p=>decide (p.f<lo))) ⟨lo,g⟩) ⟨hi+1,own 0 m (hi+1)⟩
  have h4:=U0 hi m (join (join (m.filter (fun p=>decide (p.f<lo))) ⟨lo,g⟩) ⟨hi+1,own 0 m (hi+1)⟩);omega
theorem Sb (a:Option Addr) (n c:Nat) (m:List Pc) (lo hi g:Int) (w:World) (h:nT w a n c m) (Jn:nM m=true) (oV:Can m) (hm:m.length≤1000) (h0:0≤hi) (h1:hi<18446744073709551616) (hgood:¬ (hi<lo)∧¬ (4≤g)) :
 Calls Tryz.prog 88 #[.slice a n c,.int .u64 lo,.int .u64 hi,.int .u8 g] w fun e w'=>∃ v',e=.returned (.tuple #[v',.int .i64 (qW (dG m lo hi g))])∧nP w.heap.size w' v' (qG (dG m lo hi g))∧Below w.heap.size w w':=by
 have hd:decide (hi<lo)=false:=by simp;omega
 have hd2:decide (4≤g)=false:=by simp;omega
 have hfl:=List.length_filter_le (fun p:Pc=>decide (p.f<lo)) m;have hjl:=Ah (m.filter (fun p=>decide (p.f<lo))) ⟨lo,g⟩;have HC:Hid (Can m):=oV;have HN:Hid ((dG m lo hi g).length≤3000):=Xa hm;clear oV;go_enter Tryz.func88,Tryz.ntmps88
 go_wp2_with (first | (go_at_call 129;go_must (refine (O5 _ _ _ m _ h).mono ?_;rintro e w1 ⟨rfl,hb1⟩;rw [Jn])) | (go_at_call 148;go_must (refine (VV _ _ _ m _ _ (h.later hb1) hm).mono ?_;rintro e w2 ⟨v2,rfl,ho2,hb2⟩)) | (go_at_call 147;go_must (refine (LJ w1.heap.size _ _ _ _ _ ho2 hb2.size (by omega)).mono ?_;rintro e w3 ⟨v3,rfl,ho3,hg3⟩;have hb3:=hb2.trans (hg3.DF ho2 hb2.size))) | (go_at_call 146;go_must (refine (VW w1.heap.size _ _ _ m _ _ _ _ ((h.later hb1).below hb3 (Nat.le_refl _)) hb3.size ho3 hm (by omega) HC.out h0 h1).mono ?_;rintro e w4 ⟨v4,rfl,Bl,hb4⟩;obtain ⟨a4,n4,c4,rfl,ahs,_⟩:=Bl.Ia;have HM:Hid (n4=(dG m lo hi g).length):=(by show n4=(dG m lo hi g).length;unfold dG;simpa using ahs.len);have hlm:n4≤3000:=(by rw [HM.out];exact HN.out))))
 ·go_ret2
  have hlt:1000<n4:=by omega
  rw [HM.out] at hlt;refine ⟨.slice none 0 0,?_,?_,ai hb1 (hb3.trans hb4)⟩
  ·unfold qW;rw [if_pos hlt];rfl
  ·unfold qG;rw [if_pos hlt];exact Ib _ _
 ·go_ret2
  have hlt:¬ 1000<n4:=by omega
  rw [HM.out] at hlt;refine ⟨.slice a4 n4 c4,?_,?_,ai hb1 (hb3.trans hb4)⟩
  ·unfold qW;rw [if_neg hlt];rfl
  ·unfold qG;rw [if_neg hlt];exact O8 Bl hb1.size
end
section
open Go.RowKit Go.Lib
def AX (lo hi:Int) (p:Pc):Bool:=decide (lo<p.f) && decide (p.f≤hi)
def rF (m:List Pc) (g lo hi:Int):Int:=if own 0 m lo≠g then own 0 m lo else ((m.find? (AX lo hi)).map Pc.g).getD 0
def BF (m:List Pc) (g lo hi:Int):Bool:=if own 0 m lo≠g then true else (m.find? (AX lo hi)).isSome
theorem Om {α:Type} {f:α→Bool}:∀ {l:List α} {k:Nat} {x:α},(∀ (i:Nat) (y:α),i<k→l[i]? = some y→f y=false)→l[k]? = some x→f x=true→l.find? f=some x
 | [],k,x,_,h,_=>by simp at h
 | a::r,0,x,_,h,hf=>by simp at h;subst h;simp [hf]
 | a::r,k+1,x,hb,h,hf=>by
  have ha:f a=false:=hb 0 a (Nat.succ_pos _) rfl;rw [List.find?_cons,ha];exact Om (k:=k) (fun i y hi hy=>hb (i+1) y (by omega) (by simpa using hy)) (by simpa using h) hf
theorem Sd {α:Type} {f:α→Bool} {l:List α} (h:∀ (i:Nat) (y:α),l[i]? = some y→f y=false):l.find? f=none:=by
 rw [List.find?_eq_none];intro x hx;obtain ⟨i,hi,rfl⟩:=List.getElem_of_mem hx;simp [h i _ (List.getElem?_eq_getElem hi)]
theorem yz (w:World) (b:Nat) (g n:Int) (vT vD vO vI:Value) (a:Option Addr) (mn mc:Nat) (m:List Pc) (lo hi:Int)
 (hcell:w.heap[b]? = some (.cells #[.int .u8 g,.int .u8 n,vT,.slice a mn mc,vD,vO,vI] 31)) (hM:nT w a mn mc m) (hok:nM m=true) (oV:Can m) (hlo:0≤lo) :
 Calls Tryz.prog 83 #[.pointer (some ⟨b,0,none⟩),.int .u64 lo,.int .u64 hi] w fun e w'=>e=.returned (.tuple #[.int .u8 (rF m g lo hi),.bool (BF m g lo hi)])∧Below w.heap.size w w':=by
 have HM:Hid (nT w a mn mc m):=hM;have hlm:mn≤maxLen:=Nat.le_trans hM.le hM.max;unfold maxLen at hlm;have hl0:mn=m.length:=by simpa using hM.len
 have HL:Hid (mn=m.length):=hl0;clear hl0;have HK:Hid (nM m=true∧Can m):=(⟨hok,oV⟩:_∧_);obtain ⟨o,ho⟩:∃ o,o=own 0 m lo:=⟨_,rfl⟩;have HO:Hid (own 0 m lo=o):=ho.symm;have HC:Hid (w.heap[b]? = some (.cells #[.int .u8 g,.int .u8 n,vT,.slice a mn mc,vD,vO,vI] 31)):=hcell;have hc3:w.cell? ⟨b,3,none⟩=some (.slice a mn mc):=ah hcell 3;have hbl:=(df hcell);clear hM hok oV ho hcell;by_cases hne:o=g
 ·have hd:(!(o == g))=false:=by simp [hne]
  have hG:rF m g lo hi=((m.find? (AX lo hi)).map Pc.g).getD 0:=by simp [rF,HO.out,hne]
  have hB:BF m g lo hi=(m.find? (AX lo hi)).isSome:=by simp [BF,HO.out,hne]
  rw [hG,hB];clear hG hB;subst hne;go_enter Tryz.func83,Tryz.ntmps83
  go_wp2_with (go_at_call 75;go_must (refine (LK a mn mc m lo _ HM.out HK.out.1 HK.out.2 hlo).mono ?_;rintro e w1 ⟨rfl,hb1⟩;rw [HO.out];have hc0:w1.cell? ⟨b,0,none⟩=some (.int .u8 o):=blk hb1 HC.out 0;have hc31:w1.cell? ⟨b,3,none⟩=some (.slice a mn mc):=blk hb1 HC.out 3))
  go_loopw [33] (fun i wr=>∃ k:Nat,k≤mn∧i=.int .i64 k∧Below w.heap.size w wr∧Hid (∀ (j:Nat) (y:Pc),j<k→m[j]? = some y→AX lo hi y=false)) (fun i _=>mn - (intOf i).toNat)
  case atStart=>exact ⟨0,Nat.zero_le _,rfl,hb1,fun j y hj=>absurd hj (Nat.not_lt_zero _)⟩
  case round =>
   obtain ⟨k,hk,rfl,hbr,HF⟩:=hrel;by_cases hlt:k<mn
   ·obtain ⟨x,hx⟩:∃ x,m[k]? = some x:=⟨m[k]'(by rw [← HL.out];omega),by simp⟩
    obtain ⟨bb,off,ha,j4,hp0,hp1⟩:=(HM.out.later hbr).C9 hx;dsimp only at ha;subst ha;have HX:Hid (m[k]? = some x):=hx;clear hx;obtain ⟨xf,xg⟩:=x;dsimp only at hp0 hp1;have hdk:decide ((k:Int)<(mn:Int))=true:=by simp;omega
    by_cases h1:lo<xf
    ·have hd1:decide (lo<xf)=true:=by simp [h1]
     by_cases h2:xf≤hi
     ·have hd2:decide (xf≤hi)=true:=by simp [h2]
      go_wp2_with fail
      go_ret2
      have hf:=Om HF.out HX.out (by simp [AX,h1,h2]);exact ⟨by rw [hf];rfl,ai hbr (by first | exact aj _ _ | exact (aj _ _).trans ((Only.setRow _ _ _).below (Nat.le_refl _)))⟩
     ·have hd2:decide (xf≤hi)=false:=by simp [h2]
      go_wp2_with fail
      go_roundw
      case rel=>exact ⟨k+1,by omega,by go_num,ai hbr (aj _ _),fun j y hj hy=>by
       rcases Nat.lt_or_eq_of_le (Nat.le_of_lt_succ hj) with h | rfl
       ·exact HF.out j y h hy
       ·rw [HX.out] at hy;cases hy;simp [AX,h2]⟩
      case measure=>simp [intOf];omega
    ·have hd1:decide (lo<xf)=false:=by simp [h1]
     go_wp2_with fail
     go_roundw
     case rel=>exact ⟨k+1,by omega,by go_num,ai hbr (aj _ _),fun j y hj hy=>by
      rcases Nat.lt_or_eq_of_le (Nat.le_of_lt_succ hj) with h | rfl
      ·exact HF.out j y h hy
      ·rw [HX.out] at hy;cases hy;simp [AX,h1]⟩
     case measure=>simp [intOf];omega
   ·have hdk:decide ((k:Int)<(mn:Int))=false:=by simp;omega
    go_wp2_with fail
    go_ret2
    have hf:=Sd (l:=m) (f:=AX lo hi) (fun i y hy=>HF.out i y (by have:=(mV hy);have:=HL.out;omega) hy);exact ⟨by rw [hf];rfl,hbr⟩
 ·have hd:(!(o == g))=true:=by simp [hne]
  go_enter Tryz.func83,Tryz.ntmps83
  go_wp2_with (go_at_call 75;go_must (refine (LK a mn mc m lo _ HM.out HK.out.1 HK.out.2 hlo).mono ?_;rintro e w1 ⟨rfl,hb1⟩;rw [HO.out];have hc0:w1.cell? ⟨b,0,none⟩=some (.int .u8 g):=blk hb1 HC.out 0))
  go_ret2
  exact ⟨by simp [rF,BF,HO.out,hne],hb1⟩
def LP (base lim:Nat) (X:Nat→Prop) (b:Nat) (g n:Int) (vT vM vD vO vI:Value) (T:List Row) (D:List ak) (w w':World):Prop:=∃ dN eY,mq w' base b g n dN vM eY vO vI T D∧Mod base lim X w w'∧yl w vT dN∧yl w vD eY
theorem three (w:World) (a b c:Obj):(((w.alloc a).alloc b).alloc c).heap[w.heap.size]? = some a∧(((w.alloc a).alloc b).alloc c).heap[w.heap.size+1]? = some b∧(((w.alloc a).alloc b).alloc c).heap[w.heap.size+2]? = some c∧Below w.heap.size w (((w.alloc a).alloc b).alloc c)∧(((w.alloc a).alloc b).alloc c).heap.size=w.heap.size+3:=by
 have e1:(w.alloc a).heap.size=w.heap.size+1:=by simp
 have e2:((w.alloc a).alloc b).heap.size=w.heap.size+2:=by simp
 refine ⟨?_,?_,?_,ai (ai (aj _ _) (aj _ _)) (aj _ _),by simp⟩
 ·rw [heap_alloc_old _ _ (by omega),heap_alloc_old _ _ (by omega)];exact heap_alloc_new w _
 ·rw [heap_alloc_old _ _ (by omega),← e1];exact heap_alloc_new _ _
 ·rw [← e2];exact heap_alloc_new _ _
theorem Mod.blk {base lim:Nat} {X:Nat→Prop} {w w':World} {k:Nat} {o:Obj} (h:Mod base lim X w w') (hw:w.heap[k]? = some o) (hk:lim≤k):w'.heap[k]? = some o:=(h.block k (df hw) (.inr (.inl hk))).trans hw
theorem Mod.box {base lim:Nat} {X:Nat→Prop} {B:Nat} {w a b:World} (h:Mod base lim X w a) (ho:Only B a b) (hB:w.heap.size≤B):Mod base lim X w b :=
 ⟨ho.os.trans h.os,ho.tape.trans h.tape,ho.output.trans h.output,by rw [ho.size];exact h.size,fun k hk hx=>(ho.block k (by omega)).trans (h.block k hk hx),fun k cs t hk hn=>(ho.block k (by have:=(df hk);omega)).trans (h.typ k cs t hk hn)⟩
theorem yl.ne {w:World} {v v':Value} {lim B:Nat} {X:Nat→Prop} (h:yl w v v') (hv:∀ k,v.ownBlock=some k→k<lim∧X k) (hB:lim≤B) (hw:B<w.heap.size):v'.ownBlock≠some B:=by
 intro e;rcases h with h | h
 ·rw [h] at e;have:=hv B e;omega
 ·have:=h B e;omega
theorem yl.mono {w a:World} {v v':Value} (h:yl a v v') (hs:w.heap.size≤a.heap.size):yl w v v':=h.imp id fun hk k e=>Nat.le_trans hs (hk k e)
theorem mq.Ai {w w':World} {base b B:Nat} {g n:Int} {vT vM vD vO vI:Value} {T:List Row} {D:List ak} (h:mq w base b g n vT vM vD vO vI T D) (ho:Only B w w') (hb:b≠B) (hT:vT.ownBlock≠some B) (hD:vD.ownBlock≠some B):mq w' base b g n vT vM vD vO vI T D :=
 ⟨(ho.block b hb).trans h.cell,h.oT.kept (qB ho) (.inr hT),h.oD.kept (qB ho) (.inr hD),h.b1⟩
theorem mq.box {w w':World} {base lim:Nat} {X:Nat→Prop} {b B:Nat} {g n:Int} {vT vM vD vO vI:Value} {T:List Row} {D:List ak} (h:mq w base b g n vT vM vD vO vI T D) (ho:Only B w w') (hB:lim≤B) (hb:b<lim∧X b) (hT:∀ k,vT.ownBlock=some k→k<lim∧X k) (hD:∀ k,vD.ownBlock=some k→k<lim∧X k):mq w' base b g n vT vM vD vO vI T D :=
 h.Ai ho (by omega) (fun e=>by have:=hT _ e;omega) (fun e=>by have:=hD _ e;omega)
theorem acM (w:World) (base lim:Nat) (X:Nat→Prop) (b:Nat) (g n:Int) (vT vM vD vO vI:Value) (T:List Row) (D:List ak) (qc qs qk ag qv au aA:Int) (rc rs aC rk:Int) (rf:Bool) (rv rg:Int) (h:mq w base b g n vT vM vD vO vI T D) (Pd:jZ T) (yJ:eU D) (hb:base≤w.heap.size) (Sg:lim≤w.heap.size) (hbl:b<lim∧X b) (gY:∀ k,vT.ownBlock=some k→k<lim∧X k) (gU:∀ k,vD.ownBlock=some k→k<lim∧X k) (_hnT:T.length<1000000) (hnD:D.length<1000000) (hk:(qk == 1)=true) :
 Calls Tryz.prog 85 #[.pointer (some ⟨b,0,none⟩),.agg (rQ qc qs qk ag qv au aA).toArray,.agg (rP rc rs aC rk rf rv rg).toArray] w fun e w'=>e=.returned (.agg (rP rc rs aC 1 (o7 T ag) (qR T ag) rg).toArray)∧LP base lim X b g n vT vM vD vO vI T (nU D (ak.mk rc rs aC 1 (o7 T ag) (qR T ag) rg)) w w':=by
 obtain ⟨W,hW⟩:∃ W,W=((w.alloc (.cells (rQ qc qs qk ag qv au aA).toArray 50)).alloc (.cells (rP rc rs aC rk rf rv rg).toArray 57)).alloc (.cells bA.toArray 57):=⟨_,rfl⟩;obtain ⟨hQ,hR,hZ,bE,hWs⟩:=three w (.cells (rQ qc qs qk ag qv au aA).toArray 50) (.cells (rP rc rs aC rk rf rv rg).toArray 57) (.cells bA.toArray 57);rw [← hW] at hQ hR hZ bE hWs;have HH:Hid (mq w base b g n vT vM vD vO vI T D):=h;have HST:Hid (jZ T):=Pd;have Au:Hid (eU D):=yJ;have dQ:Hid (Below w.heap.size w W):=bE;have HQ:Hid (W.heap[w.heap.size]? = some (.cells (rQ qc qs qk ag qv au aA).toArray 50)):=hQ;have HR:Hid (W.heap[w.heap.size+1]? = some (.cells (rP rc rs aC rk rf rv rg).toArray 57)):=hR;have HZ:Hid (W.heap[w.heap.size+1+1]? = some (.cells bA.toArray 57)):=hZ;have Ig:=ah hQ;clear h Pd yJ bE hQ hR hZ Ig;go_enter Tryz.func85,Tryz.ntmps85
 go_upto_region 1 with fail
 rw [← hW];clear hW;have VX:W.cell? ⟨w.heap.size,2,none⟩=some (.int .u8 qk):=ah HQ.out 2;have VY:W.cell? ⟨w.heap.size,3,none⟩=some (.int .u64 ag):=ah HQ.out 3;have VZ:W.cell? ⟨w.heap.size,4,none⟩=some (.int .u64 qv):=ah HQ.out 4;go_wp2_with (first
  | (with_reducible show dJ 5 11 ..;go_must (refine oZ (w.heap.size+1) 3 (.int .u8 1) (rP rc rs aC rk rf rv rg) 57 HR.out (rP rc rs aC 1 rf rv rg) ?_;intro w1 hw ho;have HR1:Hid (w1.heap[w.heap.size+1]? = some (.cells (rP rc rs aC 1 rf rv rg).toArray 57)):=ae (hw);have lG:Hid (Only (w.heap.size+1) W w1):=ae (ho);clear hw ho;have pz:Hid (w1.heap[w.heap.size]? = some (.cells (rQ qc qs qk ag qv au aA).toArray 50)):=ae ((lG.out.block _ (by omega)).trans HQ.out);have alF:w1.cell? ⟨w.heap.size,3,none⟩=some (.int .u64 ag):=(by with_unfolding_all exact ah pz.out 3);have uH:Hid (mq w1 base b g n vT vM vD vO vI T D):=ae ((HH.out.later dQ.out).box lG.out (by omega) hbl gY gU);have HZ1:Hid (w1.heap[w.heap.size+1+1]? = some (.cells bA.toArray 57)):=ae ((lG.out.block _ (by omega)).trans HZ.out);have HM1:Hid (w.heap.size+3≤w1.heap.size):=ae (by rw [lG.out.size,hWs];exact Nat.le_refl _);have rX:Hid (Mod base lim X w w1):=ae ((Mod.later dQ.out).box lG.out (by omega))))
  | (go_at_call 139;go_must (refine (abw _ base b g n vT vM vD vO vI T D ag uH.out HST.out).mono ?_;rintro e w2 ⟨rfl,hb2⟩;have HR2:Hid (w2.heap[w.heap.size+1]? = some (.cells (rP rc rs aC 1 rf rv rg).toArray 57)):=ae (af hb2 HR1.out);have HZ2:Hid (w2.heap[w.heap.size+1+1]? = some (.cells bA.toArray 57)):=ae (af hb2 HZ1.out);have HB2:Hid (Below w1.heap.size w1 w2):=ae hb2))
  | (with_reducible show dJ 48 19 ..;go_must (refine oZ (w.heap.size+1) 5 (.int .u64 (qR T ag)) (rP rc rs aC 1 rf rv rg) 57 HR2.out (rP rc rs aC 1 rf (qR T ag) rg) ?_;intro w3 hw ho;have HR3:Hid (w3.heap[w.heap.size+1]? = some (.cells (rP rc rs aC 1 rf (qR T ag) rg).toArray 57)):=ae (hw);have pE:Hid (Only (w.heap.size+1) w2 w3):=ae (ho);clear hw ho))
  | (with_reducible show dJ 4 20 ..;go_must (refine oZ (w.heap.size+1) 4 (.bool (o7 T ag)) (rP rc rs aC 1 rf (qR T ag) rg) 57 HR3.out (rP rc rs aC 1 (o7 T ag) (qR T ag) rg) ?_;intro w4 hw ho;have HR4:Hid (w4.heap[w.heap.size+1]? = some (.cells (rP rc rs aC 1 (o7 T ag) (qR T ag) rg).toArray 57)):=ae (hw);have o6:Hid (Only (w.heap.size+1) w3 w4):=ae (ho);clear hw ho;have I8:Hid (mq w4 base b g n vT vM vD vO vI T D):=ae (((uH.out.later HB2.out).box pE.out (by omega) hbl gY gU).box o6.out (by omega) hbl gY gU);have HZ4:Hid (w4.heap[w.heap.size+1+1]? = some (.cells bA.toArray 57)):=ae ((o6.out.block _ (by omega)).trans ((pE.out.block _ (by omega)).trans HZ2.out));have HM4:Hid (w.heap.size+3≤w4.heap.size):=ae (by rw [o6.out.size,pE.out.size];exact Nat.le_trans HM1.out HB2.out.size);have HL4:Hid (Mod base lim X w w4):=ae (((rX.out.trans (Mod.later HB2.out)).box pE.out (by omega)).box o6.out (by omega))))
  | (with_reducible show cB 44 57 ..;go_must (refine dF (w.heap.size+1) 0 7 dD (rP rc rs aC 1 (o7 T ag) (qR T ag) rg) 57 HR4.out (rP rc rs aC 1 (o7 T ag) (qR T ag) rg) ?_))
  | (go_at_call 143;go_must (refine (zz _ base lim X b g n vT vM vD vO vI T D rc rs aC 1 (o7 T ag) (qR T ag) rg I8.out Au.out (by have:=HM4.out;omega) hbl gU hnD).mono ?_;rintro e w5 ⟨rfl,hout⟩;have pQ:Hid (Jk base lim X b g n vT vM vD vO vI T (nU D (ak.mk rc rs aC 1 (o7 T ag) (qR T ag) rg)) w4 w5):=ae (hout);have AY:Hid (Mod base lim X w4 w5):=ae (by obtain ⟨_,_,h,_⟩:=hout;exact h);have zU:Hid (w5.heap[w.heap.size+1]? = some (.cells (rP rc rs aC 1 (o7 T ag) (qR T ag) rg).toArray 57)):=ae (AY.out.blk HR4.out (by omega));have Nc:Hid (w5.heap[w.heap.size+1+1]? = some (.cells bA.toArray 57)):=ae (AY.out.blk HZ4.out (by omega));clear hout))
  | (with_reducible show cB 46 57 ..;go_must (refine dF (w.heap.size+1) 0 7 dD (rP rc rs aC 1 (o7 T ag) (qR T ag) rg) 57 zU.out (rP rc rs aC 1 (o7 T ag) (qR T ag) rg) ?_))
  | (with_reducible show wpList _ _ _ ({ dst:=none,op:=Op.store 57 _ _,type:=_,pos:=_,after:=_,guard:=none }::_) _ _;go_must (refine fH (w.heap.size+1+1) 0 (rP rc rs aC 1 (o7 T ag) (qR T ag) rg) _ bA 57 Nc.out (rP rc rs aC 1 (o7 T ag) (qR T ag) rg) ?_;intro w6 hw ho;have xQ:Hid (w6.heap[w.heap.size+1+1]? = some (.cells (rP rc rs aC 1 (o7 T ag) (qR T ag) rg).toArray 57)):=ae (hw);have fo:Hid (Only (w.heap.size+1+1) w5 w6):=ae (ho);clear hw ho)))
 refine bodyPost_ret (v:=.agg (rP rc rs aC 1 (o7 T ag) (qR T ag) rg).toArray) (results_cell_row Tryz.results85 _ _ (w.heap.size+1+1) 57 _ (0,0) _ rfl xQ.out dD rfl (by kernel_rfl)) rfl ⟨rfl,?_⟩;obtain ⟨eY,hS,hM,hF⟩:=pQ.out;have hm4:=HM4.out;exact ⟨vT,eY,hS.Ai fo.out (by omega) (fun e=>by have:=gY _ e;omega) (hF.ne gU (by omega) (by omega)),(HL4.out.trans hM).box fo.out (by omega),.inl rfl,hF.mono (by omega)⟩
theorem acO (w:World) (base lim:Nat) (X:Nat→Prop) (b:Nat) (g n:Int) (vT vM vD vO vI:Value) (T:List Row) (D:List ak) (qc qs qk ag qv au aA:Int) (rc rs aC rk:Int) (rf:Bool) (rv rg:Int) (h:mq w base b g n vT vM vD vO vI T D) (Pd:jZ T) (yJ:eU D) (hb:base≤w.heap.size) (Sg:lim≤w.heap.size) (hbl:b<lim∧X b) (gY:∀ k,vT.ownBlock=some k→k<lim∧X k) (gU:∀ k,vD.ownBlock=some k→k<lim∧X k) (GG:T.length<1000000) (hnD:D.length<1000000) (hk1:(qk == 1)=false) (hk:(qk == 2)=true) :
 Calls Tryz.prog 85 #[.pointer (some ⟨b,0,none⟩),.agg (rQ qc qs qk ag qv au aA).toArray,.agg (rP rc rs aC rk rf rv rg).toArray] w fun e w'=>e=.returned (.agg (rP rc rs aC (sJ T ag) rf rv rg).toArray)∧LP base lim X b g n vT vM vD vO vI (zl T ag qv) (nU D (ak.mk rc rs aC (sJ T ag) rf rv rg)) w w':=by
 obtain ⟨W,hW⟩:∃ W,W=((w.alloc (.cells (rQ qc qs qk ag qv au aA).toArray 50)).alloc (.cells (rP rc rs aC rk rf rv rg).toArray 57)).alloc (.cells bA.toArray 57):=⟨_,rfl⟩;obtain ⟨hQ,hR,hZ,bE,hWs⟩:=three w (.cells (rQ qc qs qk ag qv au aA).toArray 50) (.cells (rP rc rs aC rk rf rv rg).toArray 57) (.cells bA.toArray 57);rw [← hW] at hQ hR hZ bE hWs;have HH:Hid (mq w base b g n vT vM vD vO vI T D):=h;have HST:Hid (jZ T):=Pd;have Au:Hid (eU D):=yJ;have dQ:Hid (Below w.heap.size w W):=bE;have HQ:Hid (W.heap[w.heap.size]? = some (.cells (rQ qc qs qk ag qv au aA).toArray 50)):=hQ;have HR:Hid (W.heap[w.heap.size+1]? = some (.cells (rP rc rs aC rk rf rv rg).toArray 57)):=hR;have HZ:Hid (W.heap[w.heap.size+1+1]? = some (.cells bA.toArray 57)):=hZ;have Ig:=ah hQ;clear h Pd yJ bE hQ hR hZ Ig;go_enter Tryz.func85,Tryz.ntmps85
 go_upto_region 1 with fail
 rw [← hW];clear hW;have VX:W.cell? ⟨w.heap.size,2,none⟩=some (.int .u8 qk):=ah HQ.out 2;have VY:W.cell? ⟨w.heap.size,3,none⟩=some (.int .u64 ag):=ah HQ.out 3;have VZ:W.cell? ⟨w.heap.size,4,none⟩=some (.int .u64 qv):=ah HQ.out 4;have pR:Hid (W.heap.size=w.heap.size+3):=hWs;go_wp2_with (first
  | (go_at_call 140;go_must (refine (abx _ base lim X b g n vT vM vD vO vI T D ag qv (HH.out.later dQ.out) HST.out (by rw [pR.out];omega) hbl gY GG).mono ?_;rintro e w1 ⟨rfl,hout⟩;obtain ⟨dN,hS,hM,hF⟩:=hout;have uH:Hid (mq w1 base b g n dN vM vD vO vI (zl T ag qv) D):=ae hS;have Ih:Hid (Mod base lim X W w1):=ae hM;have Si:Hid (yl W vT dN):=ae hF;clear hS hM hF;have HR1:Hid (w1.heap[w.heap.size+1]? = some (.cells (rP rc rs aC rk rf rv rg).toArray 57)):=ae (Ih.out.blk HR.out (by omega));have HZ1:Hid (w1.heap[w.heap.size+1+1]? = some (.cells bA.toArray 57)):=ae (Ih.out.blk HZ.out (by omega))))
  | (with_reducible show dJ 5 29 ..;go_must (refine oZ (w.heap.size+1) 3 (.int .u8 (sJ T ag)) (rP rc rs aC rk rf rv rg) 57 HR1.out (rP rc rs aC (sJ T ag) rf rv rg) ?_;intro w2 hw ho;have HR2:Hid (w2.heap[w.heap.size+1]? = some (.cells (rP rc rs aC (sJ T ag) rf rv rg).toArray 57)):=ae (hw);have dZ:Hid (Only (w.heap.size+1) w1 w2):=ae (ho);clear hw ho;have HS2:Hid (mq w2 base b g n dN vM vD vO vI (zl T ag qv) D):=ae (uH.out.Ai dZ.out (by omega) (Si.out.ne gY (by omega) (by rw [pR.out];omega)) (fun e=>by have:=gU _ e;omega));have HZ2:Hid (w2.heap[w.heap.size+1+1]? = some (.cells bA.toArray 57)):=ae ((dZ.out.block _ (by omega)).trans HZ1.out);have DI:Hid (w.heap.size+3≤w2.heap.size):=ae (by rw [dZ.out.size,← pR.out];exact Ih.out.size);have HL2:Hid (Mod base lim X w w2):=ae (((Mod.later dQ.out).trans Ih.out).box dZ.out (by omega))))
  | (with_reducible show cB 44 57 ..;go_must (refine dF (w.heap.size+1) 0 7 dD (rP rc rs aC (sJ T ag) rf rv rg) 57 HR2.out (rP rc rs aC (sJ T ag) rf rv rg) ?_))
  | (go_at_call 143;go_must (refine (zz _ base lim X b g n dN vM vD vO vI (zl T ag qv) D rc rs aC (sJ T ag) rf rv rg HS2.out Au.out (by have:=DI.out;omega) hbl gU hnD).mono ?_;rintro e w3 ⟨rfl,hout⟩;have pQ:Hid (Jk base lim X b g n dN vM vD vO vI (zl T ag qv) (nU D (ak.mk rc rs aC (sJ T ag) rf rv rg)) w2 w3):=ae (hout);have AY:Hid (Mod base lim X w2 w3):=ae (by obtain ⟨_,_,h,_⟩:=hout;exact h);have HR3:Hid (w3.heap[w.heap.size+1]? = some (.cells (rP rc rs aC (sJ T ag) rf rv rg).toArray 57)):=ae (AY.out.blk HR2.out (by omega));have HZ3:Hid (w3.heap[w.heap.size+1+1]? = some (.cells bA.toArray 57)):=ae (AY.out.blk HZ2.out (by omega));clear hout))
  | (with_reducible show cB 46 57 ..;go_must (refine dF (w.heap.size+1) 0 7 dD (rP rc rs aC (sJ T ag) rf rv rg) 57 HR3.out (rP rc rs aC (sJ T ag) rf rv rg) ?_))
  | (with_reducible show wpList _ _ _ ({ dst:=none,op:=Op.store 57 _ _,type:=_,pos:=_,after:=_,guard:=none }::_) _ _;go_must (refine fH (w.heap.size+1+1) 0 (rP rc rs aC (sJ T ag) rf rv rg) _ bA 57 HZ3.out (rP rc rs aC (sJ T ag) rf rv rg) ?_;intro w4 hw ho;have xQ:Hid (w4.heap[w.heap.size+1+1]? = some (.cells (rP rc rs aC (sJ T ag) rf rv rg).toArray 57)):=ae (hw);have fo:Hid (Only (w.heap.size+1+1) w3 w4):=ae (ho);clear hw ho)))
 refine bodyPost_ret (v:=.agg (rP rc rs aC (sJ T ag) rf rv rg).toArray) (results_cell_row Tryz.results85 _ _ (w.heap.size+1+1) 57 _ (0,0) _ rfl xQ.out dD rfl (by kernel_rfl)) rfl ⟨rfl,?_⟩;obtain ⟨eY,hS,hM,hF⟩:=pQ.out;have hm2:=DI.out;have hws:=pR.out;exact ⟨dN,eY,hS.Ai fo.out (by omega) (Si.out.ne gY (by omega) (by omega)) (hF.ne gU (by omega) (by omega)),(HL2.out.trans hM).box fo.out (by omega),Si.out.mono (by omega),hF.mono (by omega)⟩
theorem acP (w:World) (base lim:Nat) (X:Nat→Prop) (b:Nat) (g n:Int) (vT vM vD vO vI:Value) (T:List Row) (D:List ak) (qc qs qk ag qv au aA:Int) (rc rs aC rk:Int) (rf:Bool) (rv rg:Int) (h:mq w base b g n vT vM vD vO vI T D) (Pd:jZ T) (yJ:eU D) (hb:base≤w.heap.size) (Sg:lim≤w.heap.size) (hbl:b<lim∧X b) (gY:∀ k,vT.ownBlock=some k→k<lim∧X k) (gU:∀ k,vD.ownBlock=some k→k<lim∧X k) (GG:T.length<1000000) (hnD:D.length<1000000) (hk1:(qk == 1)=false) (hk2:(qk == 2)=false) (hk:(qk == 3)=true) :
 Calls Tryz.prog 85 #[.pointer (some ⟨b,0,none⟩),.agg (rQ qc qs qk ag qv au aA).toArray,.agg (rP rc rs aC rk rf rv rg).toArray] w fun e w'=>e=.returned (.agg (rP rc rs aC 2 rf rv rg).toArray)∧LP base lim X b g n vT vM vD vO vI (Ag T ag) (nU D (ak.mk rc rs aC 2 rf rv rg)) w w':=by
 obtain ⟨W,hW⟩:∃ W,W=((w.alloc (.cells (rQ qc qs qk ag qv au aA).toArray 50)).alloc (.cells (rP rc rs aC rk rf rv rg).toArray 57)).alloc (.cells bA.toArray 57):=⟨_,rfl⟩;obtain ⟨hQ,hR,hZ,bE,hWs⟩:=three w (.cells (rQ qc qs qk ag qv au aA).toArray 50) (.cells (rP rc rs aC rk rf rv rg).toArray 57) (.cells bA.toArray 57);rw [← hW] at hQ hR hZ bE hWs;have HH:Hid (mq w base b g n vT vM vD vO vI T D):=h;have HST:Hid (jZ T):=Pd;have Au:Hid (eU D):=yJ;have dQ:Hid (Below w.heap.size w W):=bE;have HQ:Hid (W.heap[w.heap.size]? = some (.cells (rQ qc qs qk ag qv au aA).toArray 50)):=hQ;have HR:Hid (W.heap[w.heap.size+1]? = some (.cells (rP rc rs aC rk rf rv rg).toArray 57)):=hR;have HZ:Hid (W.heap[w.heap.size+1+1]? = some (.cells bA.toArray 57)):=hZ;have Ig:=ah hQ;clear h Pd yJ bE hQ hR hZ Ig;go_enter Tryz.func85,Tryz.ntmps85
 go_upto_region 1 with fail
 rw [← hW];clear hW;have VX:W.cell? ⟨w.heap.size,2,none⟩=some (.int .u8 qk):=ah HQ.out 2;have VY:W.cell? ⟨w.heap.size,3,none⟩=some (.int .u64 ag):=ah HQ.out 3;have VZ:W.cell? ⟨w.heap.size,4,none⟩=some (.int .u64 qv):=ah HQ.out 4;have pR:Hid (W.heap.size=w.heap.size+3):=hWs;go_wp2_with (first
  | (go_at_call 141;go_must (refine (VQ _ base lim X b g n vT vM vD vO vI T D ag (HH.out.later dQ.out) HST.out hbl gY GG).mono ?_;rintro e w1 ⟨rfl,hout⟩;obtain ⟨dN,hS,hM,hF⟩:=hout;have uH:Hid (mq w1 base b g n dN vM vD vO vI (Ag T ag) D):=ae hS;have Ih:Hid (Mod base lim X W w1):=ae hM;have Si:Hid (yl W vT dN):=ae hF;clear hS hM hF;have HR1:Hid (w1.heap[w.heap.size+1]? = some (.cells (rP rc rs aC rk rf rv rg).toArray 57)):=ae (Ih.out.blk HR.out (by omega));have HZ1:Hid (w1.heap[w.heap.size+1+1]? = some (.cells bA.toArray 57)):=ae (Ih.out.blk HZ.out (by omega))))
  | (with_reducible show dJ 5 36 ..;go_must (refine oZ (w.heap.size+1) 3 (.int .u8 2) (rP rc rs aC rk rf rv rg) 57 HR1.out (rP rc rs aC 2 rf rv rg) ?_;intro w2 hw ho;have HR2:Hid (w2.heap[w.heap.size+1]? = some (.cells (rP rc rs aC 2 rf rv rg).toArray 57)):=ae (hw);have dZ:Hid (Only (w.heap.size+1) w1 w2):=ae (ho);clear hw ho;have HS2:Hid (mq w2 base b g n dN vM vD vO vI (Ag T ag) D):=ae (uH.out.Ai dZ.out (by omega) (Si.out.ne gY (by omega) (by rw [pR.out];omega)) (fun e=>by have:=gU _ e;omega));have HZ2:Hid (w2.heap[w.heap.size+1+1]? = some (.cells bA.toArray 57)):=ae ((dZ.out.block _ (by omega)).trans HZ1.out);have DI:Hid (w.heap.size+3≤w2.heap.size):=ae (by rw [dZ.out.size,← pR.out];exact Ih.out.size);have HL2:Hid (Mod base lim X w w2):=ae (((Mod.later dQ.out).trans Ih.out).box dZ.out (by omega))))
  | (with_reducible show cB 44 57 ..;go_must (refine dF (w.heap.size+1) 0 7 dD (rP rc rs aC 2 rf rv rg) 57 HR2.out (rP rc rs aC 2 rf rv rg) ?_))
  | (go_at_call 143;go_must (refine (zz _ base lim X b g n dN vM vD vO vI (Ag T ag) D rc rs aC 2 rf rv rg HS2.out Au.out (by have:=DI.out;omega) hbl gU hnD).mono ?_;rintro e w3 ⟨rfl,hout⟩;have pQ:Hid (Jk base lim X b g n dN vM vD vO vI (Ag T ag) (nU D (ak.mk rc rs aC 2 rf rv rg)) w2 w3):=ae (hout);have AY:Hid (Mod base lim X w2 w3):=ae (by obtain ⟨_,_,h,_⟩:=hout;exact h);have HR3:Hid (w3.heap[w.heap.size+1]? = some (.cells (rP rc rs aC 2 rf rv rg).toArray 57)):=ae (AY.out.blk HR2.out (by omega));have HZ3:Hid (w3.heap[w.heap.size+1+1]? = some (.cells bA.toArray 57)):=ae (AY.out.blk HZ2.out (by omega));clear hout))
  | (with_reducible show cB 46 57 ..;go_must (refine dF (w.heap.size+1) 0 7 dD (rP rc rs aC 2 rf rv rg) 57 HR3.out (rP rc rs aC 2 rf rv rg) ?_))
  | (with_reducible show wpList _ _ _ ({ dst:=none,op:=Op.store 57 _ _,type:=_,pos:=_,after:=_,guard:=none }::_) _ _;go_must (refine fH (w.heap.size+1+1) 0 (rP rc rs aC 2 rf rv rg) _ bA 57 HZ3.out (rP rc rs aC 2 rf rv rg) ?_;intro w4 hw ho;have xQ:Hid (w4.heap[w.heap.size+1+1]? = some (.cells (rP rc rs aC 2 rf rv rg).toArray 57)):=ae (hw);have fo:Hid (Only (w.heap.size+1+1) w3 w4):=ae (ho);clear hw ho)))
 refine bodyPost_ret (v:=.agg (rP rc rs aC 2 rf rv rg).toArray) (results_cell_row Tryz.results85 _ _ (w.heap.size+1+1) 57 _ (0,0) _ rfl xQ.out dD rfl (by kernel_rfl)) rfl ⟨rfl,?_⟩;obtain ⟨eY,hS,hM,hF⟩:=pQ.out;have hm2:=DI.out;have hws:=pR.out;exact ⟨dN,eY,hS.Ai fo.out (by omega) (Si.out.ne gY (by omega) (by omega)) (hF.ne gU (by omega) (by omega)),(HL2.out.trans hM).box fo.out (by omega),Si.out.mono (by omega),hF.mono (by omega)⟩
end
end Go.Proofs.YtignemioillaiaaGreat
