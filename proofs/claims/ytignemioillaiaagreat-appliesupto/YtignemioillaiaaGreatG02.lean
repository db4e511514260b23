/- slices.BinarySearchFunc over rows, by their keys. -/
import Derived.Test.YtignemioillaiaaGreatG01
import Derived.Laws.CopyOwn
import Derived.Lib.AppendZeros
import Derived.Lib.Overlaps
import Derived.Deep.RegionLaw
namespace Go.Proofs.YtignemioillaiaaGreat
set_option maxHeartbeats 8000000
set_option maxRecDepth 100000
section
open Go.RowKit Go.Lib
def fJ {α:Type} (f:α→Int) (l:List α):Nat:=l.countP (fun x=>decide (f x<0))
def wS {α:Type} (f:α→Int) (l:List α):Bool:=match l[fJ f l]? with | some x=>f x == 0 | none=>false
theorem WN (lo hi mid:Nat) (h:mid=(lo+hi) / 2) (hb:lo+hi<18446744073709551616):wrap64 (IntKind.u64.wrap (wrap64 ((lo:Int)+(hi:Int))) / 2)=(mid:Int):=by
 have e:∀ x:Int,IntKind.u64.wrap x=x%18446744073709551616:=fun x=>rfl
 simp only [wrap64,e];omega
theorem Og {α:Type} (f:α→Int):∀ (l:List α) (i:Nat),i≤l.length→(∀ (t:Nat) (x:α),t<i→l[t]? = some x→f x<0)→(∀ (t:Nat) (x:α),i≤t→l[t]? = some x→0≤f x)→fJ f l=i
 | [],i,hi,_,_=>by simp at hi;simp [fJ,hi]
 | a::r,0,_,_,h2=>by
  unfold fJ;rw [List.countP_eq_zero];intro x hx;obtain ⟨t,ht,rfl⟩:=List.getElem_of_mem hx;have:=h2 t _ (Nat.zero_le _) (List.getElem?_eq_getElem ht);simp;omega
 | a::r,i+1,hi,h1,h2=>by
  have ha:f a<0:=h1 0 a (Nat.succ_pos _) rfl;have:=Og f r i (by simpa using hi) (fun t x ht hx=>h1 (t+1) x (by omega) (by simpa using hx)) (fun t x h3 h4=>h2 (t+1) x (by omega) (by simpa using h4));unfold fJ at this ⊢;rw [List.countP_cons_of_pos (by simp [ha]),this]
theorem abq (a:Option Addr) (n c:Nat) (T:List Row) (key:Int) (w:World) (h:bQ w.heap.size w ⟨a,n,c⟩ 2 (T.map Row.cells))
 (hmono:∀ (i j:Nat) (x y:Row),i≤j→T[i]? = some x→T[j]? = some y→j3 y.key key<0→j3 x.key key<0) :
 Calls Tryz.prog 204 #[.slice a n c,.int .u64 key,.func (.func 205) #[] #[]] w fun e w'=>e=.returned (.tuple #[.int .i64 (fJ (fun x=>j3 x.key key) T:Nat),.bool (wS (fun x=>j3 x.key key) T)])∧Below w.heap.size w w':=by
 have hl:n=T.length:=by simpa using h.len
 have hlm:n≤maxLen:=Nat.le_trans h.le h.max;unfold maxLen at hlm;have HL:Hid (n=T.length):=hl;have HM:Hid (∀ (i j:Nat) (x y:Row),i≤j→T[i]? = some x→T[j]? = some y→j3 y.key key<0→j3 x.key key<0):=hmono;have HS:Hid (bQ w.heap.size w ⟨a,n,c⟩ 2 (T.map Row.cells)):=h;obtain ⟨ps,hps⟩:∃ ps,ps=fJ (fun x=>j3 x.key key) T:=⟨_,rfl⟩;obtain ⟨ht,hht⟩:∃ ht,ht=wS (fun x=>j3 x.key key) T:=⟨_,rfl⟩;rw [← hps,← hht];have HP:Hid (ps=fJ (fun x=>j3 x.key key) T):=hps;have HH:Hid (ht=wS (fun x=>j3 x.key key) T):=hht;clear hl hmono h hps hht;go_enter Tryz.func204,Tryz.ntmps204
 go_wp2_with fail
 go_loopw [9,10] (fun s9 s10 wr=>∃ lo hi:Nat,s9=.int .i64 lo∧s10=.int .i64 hi∧lo≤hi∧hi≤n∧Below w.heap.size w wr∧Hid ((∀ (t:Nat) (x:Row),t<lo→T[t]? = some x→j3 x.key key<0)∧(∀ (t:Nat) (x:Row),hi≤t→T[t]? = some x→0≤j3 x.key key))) (fun s9 s10 _=>(intOf s10).toNat - (intOf s9).toNat)
 case atStart=>exact ⟨0,n,rfl,rfl,Nat.zero_le _,Nat.le_refl _,Below.refl _ _,(⟨fun t x ht=>absurd ht (Nat.not_lt_zero _),fun t x h1 h2=>by have:=(mV h2);have:=HL.out;omega⟩:_∧_)⟩
 case round =>
  obtain ⟨lo,hi,rfl,rfl,hlh,hin,hbr,HI⟩:=hrel;by_cases hlt:lo<hi
  ·obtain ⟨mid,hmid⟩:∃ mid:Nat,mid=(lo+hi) / 2:=⟨_,rfl⟩
   have hm1:lo≤mid:=by omega
   have hm2:mid<hi:=by omega
   obtain ⟨x,hx⟩:∃ x,T[mid]? = some x:=⟨T[mid]'(by rw [← HL.out];omega),by simp⟩;obtain ⟨b,off,ha,j4,hc0,hc1⟩:=(HS.out.later hbr).at2 hx;dsimp only at ha;subst ha;have HX:Hid (T[mid]? = some x):=hx;clear hx;obtain ⟨az,dU⟩:=x;dsimp only at hc0 hc1;have hdl:decide ((lo:Int)<(hi:Int))=true:=by simp;omega
   have hme:wrap64 (IntKind.u64.wrap (wrap64 ((lo:Int)+(hi:Int))) / 2)=(mid:Int):=WN lo hi mid hmid (by omega);clear hmid;by_cases hy:j3 az key<0
   ·have hdy:decide (j3 az key<0)=true:=by simp [hy]
    go_wp2_with (go_at_call 205;go_must (refine (Oe _ _ _ _).mono ?_;rintro e w1 ⟨rfl,hb1⟩))
    go_roundw
    case rel=>exact ⟨mid+1,hi,by go_num,rfl,by omega,hin,ai hbr hb1,(⟨fun t x ht hx=>HM.out t mid x _ (by omega) hx HX.out hy,HI.out.2⟩:_∧_)⟩
    case measure=>simp [intOf];omega
   ·have hdy:decide (j3 az key<0)=false:=by simp [hy]
    go_wp2_with (go_at_call 205;go_must (refine (Oe _ _ _ _).mono ?_;rintro e w1 ⟨rfl,hb1⟩))
    go_roundw
    case rel=>exact ⟨lo,mid,rfl,by go_num,by omega,by omega,ai hbr hb1,(⟨HI.out.1,fun t x ht hx=>Int.not_lt.1 fun hlt2=>absurd (HM.out mid t _ x (by omega) HX.out hx hlt2) (by simpa using hy)⟩:_∧_)⟩
    case measure=>simp [intOf];omega
  ·obtain rfl:hi=lo:=by omega
   have hps:=Og (fun x:Row=>j3 x.key key) T hi (by rw [← HL.out];omega) HI.out.1 HI.out.2;obtain rfl:ps=hi:=HP.out.trans hps;clear hps;by_cases hn:ps<n
   ·obtain ⟨x,hx⟩:∃ x,T[ps]? = some x:=⟨T[ps]'(by rw [← HL.out];omega),by simp⟩
    obtain ⟨b,off,ha,j4,hc0,hc1⟩:=(HS.out.later hbr).at2 hx;dsimp only at ha;subst ha;have hht:ht=(j3 x.key key == 0):=by rw [HH.out,wS,← HP.out,hx]
    clear hx;obtain ⟨az,dU⟩:=x;dsimp only at hc0 hc1 hht;subst hht;have hdn:decide ((ps:Int)<(n:Int))=true:=by simp;omega
    go_wp2_with (go_at_call 205;go_must (refine (Oe _ _ _ _).mono ?_;rintro e w1 ⟨rfl,hb1⟩))
    go_ret2
    exact ⟨rfl,ai hbr hb1⟩
   ·have hht:ht=false:=by rw [HH.out,wS,← HP.out,List.getElem?_eq_none (by rw [← HL.out];omega)]
    subst hht;have hdn:decide ((ps:Int)<(n:Int))=false:=by simp;omega
    go_wp2_with fail
    go_ret2
    exact ⟨rfl,hbr⟩
theorem abr (a:Option Addr) (n c:Nat) (T:List ak) (qc qs ag qk:Int) (qf:Bool) (qv qg:Int) (w:World) (h:bQ w.heap.size w ⟨a,n,c⟩ 7 (T.map ak.cells))
 (hmono:∀ (i j:Nat) (x y:ak),i≤j→T[i]? = some x→T[j]? = some y→nO y (ak.mk qc qs ag qk qf qv qg)<0→nO x (ak.mk qc qs ag qk qf qv qg)<0) :
 Calls Tryz.prog 134 #[.slice a n c,.agg (rP qc qs ag qk qf qv qg).toArray,.func (.func 135) #[] #[]] w fun e w'=>e=.returned (.tuple #[.int .i64 (fJ (fun x=>nO x (ak.mk qc qs ag qk qf qv qg)) T:Nat),.bool (wS (fun x=>nO x (ak.mk qc qs ag qk qf qv qg)) T)])∧Below w.heap.size w w':=by
 obtain ⟨W,hW⟩:∃ W,W=w.alloc (.cells (rP qc qs ag qk qf qv qg).toArray 57):=⟨_,rfl⟩;have fP:W.heap[w.heap.size]? = some (.cells (rP qc qs ag qk qf qv qg).toArray 57):=by rw [hW];exact heap_alloc_new w _
 have bE:Below w.heap.size w W:=by rw [hW];exact aj w _
 have hl:n=T.length:=by simpa using h.len
 have hlm:n≤maxLen:=Nat.le_trans h.le h.max;unfold maxLen at hlm;have HL:Hid (n=T.length):=hl;have HM:Hid (∀ (i j:Nat) (x y:ak),i≤j→T[i]? = some x→T[j]? = some y→nO y (ak.mk qc qs ag qk qf qv qg)<0→nO x (ak.mk qc qs ag qk qf qv qg)<0):=hmono;have HS:Hid (bQ W.heap.size W ⟨a,n,c⟩ 7 (T.map ak.cells)):=h.later bE;obtain ⟨ps,hps⟩:∃ ps,ps=fJ (fun x=>nO x (ak.mk qc qs ag qk qf qv qg)) T:=⟨_,rfl⟩;obtain ⟨ht,hht⟩:∃ ht,ht=wS (fun x=>nO x (ak.mk qc qs ag qk qf qv qg)) T:=⟨_,rfl⟩;rw [← hps,← hht];have HP:Hid (ps=fJ (fun x=>nO x (ak.mk qc qs ag qk qf qv qg)) T):=hps;have HH:Hid (ht=wS (fun x=>nO x (ak.mk qc qs ag qk qf qv qg)) T):=hht;clear hl hmono h hps hht;go_enter Tryz.func134,Tryz.ntmps134
 go_wp2_with fail
 rw [← hW];clear hW;go_loopw [9,10] (fun s9 s10 wr=>∃ lo hi:Nat,s9=.int .i64 lo∧s10=.int .i64 hi∧lo≤hi∧hi≤n∧Below W.heap.size W wr∧Hid ((∀ (t:Nat) (x:ak),t<lo→T[t]? = some x→nO x (ak.mk qc qs ag qk qf qv qg)<0)∧(∀ (t:Nat) (x:ak),hi≤t→T[t]? = some x→0≤nO x (ak.mk qc qs ag qk qf qv qg)))) (fun s9 s10 _=>(intOf s10).toNat - (intOf s9).toNat)
 case atStart=>exact ⟨0,n,rfl,rfl,Nat.zero_le _,Nat.le_refl _,Below.refl _ _,(⟨fun t x ht=>absurd ht (Nat.not_lt_zero _),fun t x h1 h2=>by have:=(mV h2);have:=HL.out;omega⟩:_∧_)⟩
 case round =>
  obtain ⟨lo,hi,rfl,rfl,hlh,hin,hbr,HI⟩:=hrel;by_cases hlt:lo<hi
  ·obtain ⟨mid,hmid⟩:∃ mid:Nat,mid=(lo+hi) / 2:=⟨_,rfl⟩
   have hm1:lo≤mid:=by omega
   have hm2:mid<hi:=by omega
   obtain ⟨x,hx⟩:∃ x,T[mid]? = some x:=⟨T[mid]'(by rw [← HL.out];omega),by simp⟩;obtain ⟨b,off,ha,j4,hc0,hc1,hc2,hc3,hc4,r9,hc6⟩:=(HS.out.later hbr).KR hx;dsimp only at ha;subst ha;have HX:Hid (T[mid]? = some x):=hx;clear hx;obtain ⟨xc,xs,az,xk,xf,xv,xg⟩:=x;dsimp only at hc0 hc1 hc2 hc3 hc4 r9 hc6;have hdl:decide ((lo:Int)<(hi:Int))=true:=by simp;omega
   have hme:wrap64 (IntKind.u64.wrap (wrap64 ((lo:Int)+(hi:Int))) / 2)=(mid:Int):=WN lo hi mid hmid (by omega);clear hmid;have hi1:(0:Int)≤(mid:Int):=by omega
   have hi2:(mid:Int)<(n:Int):=by omega
   have MK:Hid (∀ w',Below wr.heap.size wr w'→(Below wr.heap.size wr w'∧w'.cell? ⟨b,off+mid*7,none⟩=some (.int .u8 xc)∧w'.cell? ⟨b,off+mid*7+1,none⟩=some (.int .u32 xs)∧w'.cell? ⟨b,off+mid*7+2,none⟩=some (.int .u64 az)∧w'.cell? ⟨b,off+mid*7+3,none⟩=some (.int .u8 xk)∧w'.cell? ⟨b,off+mid*7+4,none⟩=some (.bool xf)∧w'.cell? ⟨b,off+mid*7+5,none⟩=some (.int .u64 xv)∧w'.cell? ⟨b,off+mid*7+6,none⟩=some (.int .u8 xg)∧w'.cell? ⟨w.heap.size,0,none⟩=some (.int .u8 qc)∧w'.cell? ⟨w.heap.size,1,none⟩=some (.int .u32 qs)∧w'.cell? ⟨w.heap.size,2,none⟩=some (.int .u64 ag)∧w'.cell? ⟨w.heap.size,3,none⟩=some (.int .u8 qk)∧w'.cell? ⟨w.heap.size,4,none⟩=some (.bool qf)∧w'.cell? ⟨w.heap.size,5,none⟩=some (.int .u64 qv)∧w'.cell? ⟨w.heap.size,6,none⟩=some (.int .u8 qg))):=fun w' hb=>⟨hb,(bU hb j4 _).trans hc0,(bU hb j4 _).trans hc1,(bU hb j4 _).trans hc2,(bU hb j4 _).trans hc3,(bU hb j4 _).trans hc4,(bU hb j4 _).trans r9,(bU hb j4 _).trans hc6,blk (ai hbr hb) fP 0,blk (ai hbr hb) fP 1,blk (ai hbr hb) fP 2,blk (ai hbr hb) fP 3,blk (ai hbr hb) fP 4,blk (ai hbr hb) fP 5,blk (ai hbr hb) fP 6⟩
   go_wp2_with fail
   go_region_held3 (fun w'=>Below wr.heap.size wr w'∧w'.cell? ⟨b,off+mid*7,none⟩=some (.int .u8 xc)∧w'.cell? ⟨b,off+mid*7+1,none⟩=some (.int .u32 xs)∧w'.cell? ⟨b,off+mid*7+2,none⟩=some (.int .u64 az)∧w'.cell? ⟨b,off+mid*7+3,none⟩=some (.int .u8 xk)∧w'.cell? ⟨b,off+mid*7+4,none⟩=some (.bool xf)∧w'.cell? ⟨b,off+mid*7+5,none⟩=some (.int .u64 xv)∧w'.cell? ⟨b,off+mid*7+6,none⟩=some (.int .u8 xg)∧w'.cell? ⟨w.heap.size,0,none⟩=some (.int .u8 qc)∧w'.cell? ⟨w.heap.size,1,none⟩=some (.int .u32 qs)∧w'.cell? ⟨w.heap.size,2,none⟩=some (.int .u64 ag)∧w'.cell? ⟨w.heap.size,3,none⟩=some (.int .u8 qk)∧w'.cell? ⟨w.heap.size,4,none⟩=some (.bool qf)∧w'.cell? ⟨w.heap.size,5,none⟩=some (.int .u64 qv)∧w'.cell? ⟨w.heap.size,6,none⟩=some (.int .u8 qg)) (first | exact MK.out _ (Below.refl _ _).drew | exact MK.out _ (fB (by assumption) (by assumption)) | exact MK.out _ (fI (by assumption))) (first | (go_at_call 135;refine (UQ xc xs az xk xf xv xg qc qs ag qk qf qv qg _).mono ?_;rintro e w1 ⟨rfl,zQ⟩))
   by_cases hy:nO (ak.mk xc xs az xk xf xv xg) (ak.mk qc qs ag qk qf qv qg)<0
   ·have hdy:decide (nO (ak.mk xc xs az xk xf xv xg) (ak.mk qc qs ag qk qf qv qg)<0)=true:=by simp [hy]
    go_wp2_with fail
    go_roundw
    case rel=>exact ⟨mid+1,hi,by go_num,rfl,by omega,hin,ai hbr (And.left (by assumption)),(⟨fun t x ht hx=>HM.out t mid x _ (by omega) hx HX.out hy,HI.out.2⟩:_∧_)⟩
    case measure=>simp [intOf];omega
   ·have hdy:decide (nO (ak.mk xc xs az xk xf xv xg) (ak.mk qc qs ag qk qf qv qg)<0)=false:=by simp [hy]
    go_wp2_with fail
    go_roundw
    case rel=>exact ⟨lo,mid,rfl,by go_num,by omega,by omega,ai hbr (And.left (by assumption)),(⟨HI.out.1,fun t x ht hx=>Int.not_lt.1 fun hlt2=>absurd (HM.out mid t _ x (by omega) HX.out hx hlt2) (by simpa using hy)⟩:_∧_)⟩
    case measure=>simp [intOf];omega
  ·obtain rfl:hi=lo:=by omega
   have hps:=Og (fun x:ak=>nO x (ak.mk qc qs ag qk qf qv qg)) T hi (by rw [← HL.out];omega) HI.out.1 HI.out.2;obtain rfl:ps=hi:=HP.out.trans hps;clear hps;by_cases hn:ps<n
   ·obtain ⟨x,hx⟩:∃ x,T[ps]? = some x:=⟨T[ps]'(by rw [← HL.out];omega),by simp⟩
    obtain ⟨b,off,ha,j4,hc0,hc1,hc2,hc3,hc4,r9,hc6⟩:=(HS.out.later hbr).KR hx;dsimp only at ha;subst ha;have hht:ht=(nO x (ak.mk qc qs ag qk qf qv qg) == 0):=by rw [HH.out,wS,← HP.out,hx]
    clear hx;obtain ⟨xc,xs,az,xk,xf,xv,xg⟩:=x;dsimp only at hc0 hc1 hc2 hc3 hc4 r9 hc6 hht;subst hht;have hdn:decide ((ps:Int)<(n:Int))=true:=by simp;omega
    have hi1:(0:Int)≤(ps:Int):=by omega
    have hi2:(ps:Int)<(n:Int):=by omega
    have MK:Hid (∀ w',Below wr.heap.size wr w'→(Below wr.heap.size wr w'∧w'.cell? ⟨b,off+ps*7,none⟩=some (.int .u8 xc)∧w'.cell? ⟨b,off+ps*7+1,none⟩=some (.int .u32 xs)∧w'.cell? ⟨b,off+ps*7+2,none⟩=some (.int .u64 az)∧w'.cell? ⟨b,off+ps*7+3,none⟩=some (.int .u8 xk)∧w'.cell? ⟨b,off+ps*7+4,none⟩=some (.bool xf)∧w'.cell? ⟨b,off+ps*7+5,none⟩=some (.int .u64 xv)∧w'.cell? ⟨b,off+ps*7+6,none⟩=some (.int .u8 xg)∧w'.cell? ⟨w.heap.size,0,none⟩=some (.int .u8 qc)∧w'.cell? ⟨w.heap.size,1,none⟩=some (.int .u32 qs)∧w'.cell? ⟨w.heap.size,2,none⟩=some (.int .u64 ag)∧w'.cell? ⟨w.heap.size,3,none⟩=some (.int .u8 qk)∧w'.cell? ⟨w.heap.size,4,none⟩=some (.bool qf)∧w'.cell? ⟨w.heap.size,5,none⟩=some (.int .u64 qv)∧w'.cell? ⟨w.heap.size,6,none⟩=some (.int .u8 qg))):=fun w' hb=>⟨hb,(bU hb j4 _).trans hc0,(bU hb j4 _).trans hc1,(bU hb j4 _).trans hc2,(bU hb j4 _).trans hc3,(bU hb j4 _).trans hc4,(bU hb j4 _).trans r9,(bU hb j4 _).trans hc6,blk (ai hbr hb) fP 0,blk (ai hbr hb) fP 1,blk (ai hbr hb) fP 2,blk (ai hbr hb) fP 3,blk (ai hbr hb) fP 4,blk (ai hbr hb) fP 5,blk (ai hbr hb) fP 6⟩
    go_wp2_with fail
    go_region_held3 (fun w'=>Below wr.heap.size wr w'∧w'.cell? ⟨b,off+ps*7,none⟩=some (.int .u8 xc)∧w'.cell? ⟨b,off+ps*7+1,none⟩=some (.int .u32 xs)∧w'.cell? ⟨b,off+ps*7+2,none⟩=some (.int .u64 az)∧w'.cell? ⟨b,off+ps*7+3,none⟩=some (.int .u8 xk)∧w'.cell? ⟨b,off+ps*7+4,none⟩=some (.bool xf)∧w'.cell? ⟨b,off+ps*7+5,none⟩=some (.int .u64 xv)∧w'.cell? ⟨b,off+ps*7+6,none⟩=some (.int .u8 xg)∧w'.cell? ⟨w.heap.size,0,none⟩=some (.int .u8 qc)∧w'.cell? ⟨w.heap.size,1,none⟩=some (.int .u32 qs)∧w'.cell? ⟨w.heap.size,2,none⟩=some (.int .u64 ag)∧w'.cell? ⟨w.heap.size,3,none⟩=some (.int .u8 qk)∧w'.cell? ⟨w.heap.size,4,none⟩=some (.bool qf)∧w'.cell? ⟨w.heap.size,5,none⟩=some (.int .u64 qv)∧w'.cell? ⟨w.heap.size,6,none⟩=some (.int .u8 qg)) (first | exact MK.out _ (Below.refl _ _).drew | exact MK.out _ (fB (by assumption) (by assumption)) | exact MK.out _ (fI (by assumption))) (first | (go_at_call 135;refine (UQ xc xs az xk xf xv xg qc qs ag qk qf qv qg _).mono ?_;rintro e w1 ⟨rfl,zQ⟩))
    go_wp2_with fail
    go_ret2
    exact ⟨rfl,ai bE (ai hbr (And.left (by assumption)))⟩
   ·have hht:ht=false:=by rw [HH.out,wS,← HP.out,List.getElem?_eq_none (by rw [← HL.out];omega)]
    subst hht;have hdn:decide ((ps:Int)<(n:Int))=false:=by simp;omega
    go_wp2_with fail
    go_region
    all_goals (go_wp2;go_ret2;exact ⟨rfl,ai bE (by first | exact hbr | exact hbr.drew)⟩)
end
section
open Go.RowKit
theorem WO {P:Program} (w:World) (dT sT ty elem:TypeId) (size g off dLen dCap:Nat) (a:Addr) (sLen sCap:Nat) (cur:List Value) (t:TypeId) (cs:List Value)
 (hu:P.underlying dT=some (.slice elem)) (hs:(P.info? elem).map (·.size)=some size)
 (hg:w.heap[g]? = some (.cells cur.toArray t)) (hn:cs.length=Nat.min sLen dLen*size)
 (hsrc:∀ j v,cs[j]? = some v→w.cell? (a.add j)=some v) (hfit:off+cs.length≤cur.length) (h1:∀ v∈cs,v.oneCell'=true) :
 (Builtin.copy_ #[dT,sT] ty #[.slice (some ⟨g,off,none⟩) dLen dCap,.slice (some a) sLen sCap]).run P w =
  .ok (goInt (Nat.min sLen dLen)) (w.setRow g (splice cur off cs).toArray):=by
 have hl:=run_loadCells_list (P:=P) w a cs hsrc;have hst:=run_storeCells_at P g off t cs 0 cur.toArray w hg (by simpa using hfit) h1;cases hq:P.info? elem with
 | none=>simp [hq] at hs
 | some i =>
  have hi:i.size=size:=by simpa [hq] using hs
  simp [Builtin.copy_,run_underlying hu,Builtin.lenOf,Builtin.firstCells,sizeOf,typeInfo,hq,hi,← hn,hl,hst,splice]
theorem RN {P:Program} {w:World} {o:Oper} {a:Act} {K:Act→World→Prop} {Q:Exit→Act→World→Prop} (d s:Operand) (dT sT:TypeId)
 (ho:o.op=.call { callee:=.builtin .copy,args:=#[d,s],argTypes:=#[dT,sT] }) (elem:TypeId) (size:Nat) (hu:P.underlying dT=some (.slice elem)) (hsz:(P.info? elem).map (·.size)=some size)
 (g off dLen dCap:Nat) (hd:a.eval d=.slice (some ⟨g,off,none⟩) dLen dCap) (ad:Addr) (n c:Nat) (hs:a.eval s=.slice (some ad) n c)
 (cur:List Value) (t:TypeId) (hg:w.heap[g]? = some (.cells cur.toArray t)) (cs:List Value) (hn:cs.length=Nat.min n dLen*size)
 (hsrc:∀ j v,cs[j]? = some v→w.cell? (ad.add j)=some v) (hfit:off+cs.length≤cur.length) (h1:∀ v∈cs,v.oneCell'=true)
 (h:∀ w',Hid (w'.heap[g]? = some (.cells (splice cur off cs).toArray t))→Hid (Only g w w')→K (a.put o.dst (goInt (Nat.min n dLen))) w'):o.wp P a w K Q:=by
 have hrun:=WO (P:=P) w dT sT o.type elem size g off dLen dCap ad n c cur t cs hu hsz hg hn hsrc hfit h1;unfold Oper.wp execOp;simp only [ho,resolve,invoke,builtin,Sem.run_bind,Sem.run_pure,Result.andThen_ok,List.map_toArray,List.map_cons,List.map_nil,hd,hs,hrun];exact h _ (setRow_heap w g cur.toArray _ t (0,0) hg) (Only.setRow w g _)
theorem AO {P:Program} {w:World} {ops:Array Oper} {rest:List Oper} {o:Oper} {a:Act} {Q:Exit→Act→World→Prop} (hgd:o.guard=none) (d s:Operand) (dT sT:TypeId)
 (ho:o.op=.call { callee:=.builtin .copy,args:=#[d,s],argTypes:=#[dT,sT] }) (elem:TypeId) (size:Nat) (hu:P.underlying dT=some (.slice elem)) (hsz:(P.info? elem).map (·.size)=some size)
 (g off dLen dCap:Nat) (hd:a.eval d=.slice (some ⟨g,off,none⟩) dLen dCap) (ad:Addr) (n c:Nat) (hs:a.eval s=.slice (some ad) n c)
 (cur:List Value) (t:TypeId) (hg:w.heap[g]? = some (.cells cur.toArray t)) (cs:List Value) (hn:cs.length=Nat.min n dLen*size)
 (hsrc:∀ j v,cs[j]? = some v→w.cell? (ad.add j)=some v) (hfit:off+cs.length≤cur.length) (h1:∀ v∈cs,v.oneCell'=true)
 (h:∀ w',Hid (w'.heap[g]? = some (.cells (splice cur off cs).toArray t))→Hid (Only g w w')→wpList P ops Q rest (a.put o.dst (goInt (Nat.min n dLen))) w'):wpList P ops Q (o::rest) a w :=
 wpList_plain hgd fun _ hK=>RN d s dT sT ho elem size hu hsz g off dLen dCap hd ad n c hs cur t hg cs hn hsrc hfit h1 fun w' h1 h2=>hK _ _ (h w' h1 h2)
theorem Df {P:Program} {w:World} {ops:Array Oper} {o:Oper} {a:Act} {K:Act→World→Prop} {Q:Exit→Act→World→Prop} {E:Prop} (hgd:o.guard=none) (d s:Operand) (dT sT:TypeId)
 (ho:o.op=.call { callee:=.builtin .copy,args:=#[d,s],argTypes:=#[dT,sT] }) (elem:TypeId) (size:Nat) (hu:P.underlying dT=some (.slice elem)) (hsz:(P.info? elem).map (·.size)=some size)
 (g off dLen dCap:Nat) (hd:a.eval d=.slice (some ⟨g,off,none⟩) dLen dCap) (ad:Addr) (n c:Nat) (hs:a.eval s=.slice (some ad) n c)
 (cur:List Value) (t:TypeId) (hg:w.heap[g]? = some (.cells cur.toArray t)) (cs:List Value) (hn:cs.length=Nat.min n dLen*size)
 (hsrc:∀ j v,cs[j]? = some v→w.cell? (ad.add j)=some v) (hfit:off+cs.length≤cur.length) (h1:∀ v∈cs,v.oneCell'=true)
 (h:∀ w',Hid (w'.heap[g]? = some (.cells (splice cur off cs).toArray t))→Hid (Only g w w')→K (a.put o.dst (goInt (Nat.min n dLen))) w') :
 if Region.wanted o (yielded ops a.tmps)=true then Oper.wp P o a w K Q else E:=by
 have hw:Region.wanted o (yielded ops a.tmps)=true:=by simp [Region.wanted,hgd]
 rw [if_pos hw];exact RN d s dT sT ho elem size hu hsz g off dLen dCap hd ad n c hs cur t hg cs hn hsrc hfit h1 h
theorem Ji {P:Program} {w:World} {ops:Array Oper} {o:Oper} {a:Act} {K:Act→World→Prop} {Q:Exit→Act→World→Prop} {E:Prop} (hgd:o.guard=none) (s x:Operand) (t:TypeId)
 (ho:o.op=.call { callee:=.builtin .append,args:=#[s,x],argTypes:=#[t,t] }) (e:TypeId) (i:TypeInfo) (ht:P.underlying t=some (.slice e)) (hi:P.info? e=some i) (size:Nat) (hsz:i.size=size)
 (g sLen sCap:Nat) (hs:a.eval s=.slice (some ⟨g,0,none⟩) sLen sCap) (ad:Addr) (m c:Nat) (hx:a.eval x=.slice (some ad) m c)
 (cur:List Value) (hg:w.heap[g]? = some (.cells cur.toArray e)) (news:List Value) (hl:news.length=m*size) (hnews:∀ j u,news[j]? = some u→w.cell? (ad.add j)=some u) (h1:∀ u∈news,u.oneCell'=true)
 (hroom:sLen+m≤sCap) (hfit:sLen*size+news.length≤cur.length) (r:Nat) (hr:sLen+m=r)
 (h:∀ w',Hid (w'.heap[g]? = some (.cells (cur.take (sLen*size)++news++cur.drop (sLen*size+news.length)).toArray e))→Hid (Only g w w')→K (a.put o.dst (.slice (some ⟨g,0,none⟩) r sCap)) w') :
 if Region.wanted o (yielded ops a.tmps)=true then Oper.wp P o a w K Q else E:=by
 have hw:Region.wanted o (yielded ops a.tmps)=true:=by simp [Region.wanted,hgd]
 rw [if_pos hw];subst hr hsz;have hrun:=run_append_room (P:=P) w t o.type e i ht hi g sLen sCap cur.toArray hg ad m c news hl hnews h1 hroom (by simpa using hfit);unfold Oper.wp execOp;simp only [ho,resolve,invoke,builtin,Sem.run_bind,Sem.run_pure,Result.andThen_ok,List.map_toArray,List.map_cons,List.map_nil,hs,hx,hrun];exact h _ (setRow_heap w g cur.toArray _ e (0,0) hg) (Only.setRow w g _)
theorem Dz {P:Program} (w:World) (t tn ty e:TypeId) (i:TypeInfo) (z:Value) (k kn:IntKind) (ht:P.underlying t=some (.slice e)) (htn:P.underlying tn=some (.int kn)) (hi:P.info? e=some i) (hz:i.zero=some z) (hzs:z.cells.size=i.size)
 (b:Addr) (sLen sCap:Nat) (olds:List Value) (hlo:olds.length=sLen*i.size) (holds:∀ j v,olds[j]? = some v→w.cell? (b.add j)=some v)
 (m:Nat) (h0:0<m) (hs:0<i.size) (hg:sCap<sLen+m) (hb:(sLen+m)*i.bytes≤140737488355328) (h63:sLen+m≤maxLen) :
 ∃ cur:List Value,cur.length=grownCap w (sLen+m) sCap e*i.size∧cur.take (sLen*i.size)=olds ∧
 (Builtin.append_ #[t,tn] ty #[.slice (some b) sLen sCap,.int k m]).run P w =
  .ok (.slice (some ⟨w.heap.size,0,none⟩) (sLen+m) (grownCap w (sLen+m) sCap e)) (w.drew.alloc (.cells cur.toArray e)):=by
 have hge:=grownCap_ge w (sLen+m) sCap e;refine ⟨olds++(Builtin.zeroCells z.cells m).toList++(Builtin.zeroCells z.cells (grownCap w (sLen+m) sCap e - (sLen+m))).toList,?_,?_,?_⟩
 ·simp only [List.length_append,Array.length_toList,size_zeroCells,hzs,hlo,← Nat.add_mul]
  congr 1
  omega
 ·rw [List.append_assoc,← hlo,List.take_left]
 have hmx:sLen+m≤9223372036854775807:=by simpa [maxLen] using h63
 have hn:¬ (sLen+m≤sCap):=by omega
 have hm:m≠0:=by omega
 have hw:IntKind.i64.wrap (m:Int)=m:=by rw [IntKind.wrap_i64];omega
 have h63':¬ (9223372036854775807<((sLen:Int)+(m:Int))):=by omega
 have h48':¬ (281474976710656<Builtin.nextslicecap (sLen+m) sCap*i.bytes):=by have:=growslice_fits hg hb;omega
 have h48i:¬ (281474976710656<(m:Int)*(i.bytes:Int)):=by
  rw [← Int.natCast_mul];have:m*i.bytes≤(sLen+m)*i.bytes:=Nat.mul_le_mul_right _ (by omega);omega
 have hneg:¬ ((m:Int)<0):=by omega
 have hns:¬ (m*i.size=0):=Nat.mul_ne_zero hm (by omega);have hfo:=run_firstCells_some (P:=P) w.drew i.size sLen b sLen sCap olds hlo (by simpa using holds);simp [Builtin.append_,run_underlying ht,run_underlying htn,sizeOf,typeInfo,zeroValue,hi,hz,asInt,asIntOf,hw,hn,hneg,hns,h63',h48',h48i,Question.forced,hfo,newRow,grownCap];congr 2
 apply Array.ext'
 simp
theorem VJ {P:Program} (w:World) (t ty e:TypeId) (i:TypeInfo) (z:Value) (ht:P.underlying t=some (.slice e)) (hi:P.info? e=some i) (hz:i.zero=some z) (hzs:z.cells.size=i.size) (h1:∀ v∈z.cells,v.oneCell'=true)
 (g off n c:Nat) (hn:0<n) (cur:List Value) (t':TypeId) (hg:w.heap[g]? = some (.cells cur.toArray t')) (hfit:off+n*i.size≤cur.length) :
 ∃ zs:List Value,zs.length=n*i.size∧(Builtin.clear_ #[t] ty #[.slice (some ⟨g,off,none⟩) n c]).run P w=.ok (.tuple #[]) (w.setRow g (splice cur off zs).toArray):=by
 have hzl:(Builtin.zeroCells z.cells n).toList.length=n*i.size:=by rw [Array.length_toList,size_zeroCells,hzs]
 refine ⟨(Builtin.zeroCells z.cells n).toList,hzl,?_⟩;have hone:∀ v∈(Builtin.zeroCells z.cells n).toList,v.oneCell'=true:=by
  intro v hv;simp only [Builtin.zeroCells,Array.toList_map,List.mem_map] at hv;obtain ⟨j,hj,rfl⟩:=hv;have hp:0<z.cells.size:=by
   rcases Nat.eq_zero_or_pos z.cells.size with h | h
   ·simp [h] at hj
   ·exact h
  rw [getElem!_pos z.cells (j%z.cells.size) (Nat.mod_lt _ hp)];exact h1 _ (Array.getElem_mem _)
 have hst:=run_storeCells_at P g off t' (Builtin.zeroCells z.cells n).toList 0 cur.toArray w hg (by rw [hzl];simpa using hfit) hone;obtain ⟨k,rfl⟩:∃ k,n=k+1:=⟨n - 1,by omega⟩;simp [Builtin.clear_,run_underlying ht,zeroValue,typeInfo,hi,hz,hst,splice]
theorem CU {P:Program} {w:World} {ops:Array Oper} {rest:List Oper} {o:Oper} {a:Act} {Q:Exit→Act→World→Prop} (hgd:o.guard=none) (s:Operand) (t:TypeId)
 (ho:o.op=.call { callee:=.builtin .clear,args:=#[s],argTypes:=#[t] }) (e:TypeId) (i:TypeInfo) (z:Value) (ht:P.underlying t=some (.slice e)) (hi:P.info? e=some i) (hz:i.zero=some z) (size:Nat) (hsz:i.size=size) (hzs:z.cells.size=size) (h1:∀ v∈z.cells,v.oneCell'=true)
 (g off n c:Nat) (hs:a.eval s=.slice (some ⟨g,off,none⟩) n c) (hn:0<n) (cur:List Value) (t':TypeId) (hg:w.heap[g]? = some (.cells cur.toArray t')) (hfit:off+n*size≤cur.length)
 (h:∀ (zs:List Value) (w':World),Hid (zs.length=n*size)→Hid (w'.heap[g]? = some (.cells (splice cur off zs).toArray t'))→Hid (Only g w w')→wpList P ops Q rest (a.put o.dst (.tuple #[])) w'):wpList P ops Q (o::rest) a w :=
 wpList_plain hgd fun K hK=>by
  subst hsz;obtain ⟨zs,hzl,hrun⟩:=VJ (P:=P) w t o.type e i z ht hi hz hzs h1 g off n c hn cur t' hg hfit;unfold Oper.wp execOp;simp only [ho,resolve,invoke,builtin,Sem.run_bind,Sem.run_pure,Result.andThen_ok,List.map_toArray,List.map_cons,List.map_nil,hs,hrun];exact hK _ _ (h zs _ hzl (setRow_heap w g cur.toArray _ t' (0,0) hg) (Only.setRow w g _))
theorem MQ (g o j:Nat):(⟨g,o,none⟩:Addr).add j=⟨g,o+j,none⟩:=by unfold Addr.add;split <;> simp_all
theorem yQ {w:World} {g:Nat} {cur xs:List Value} {t:TypeId} {m:Nat} (hg:w.heap[g]? = some (.cells cur.toArray t)) (htk:cur.take m=xs) (k:Nat) :
 ∀ j v,(xs.drop k)[j]? = some v→w.cell? ((⟨g,k,none⟩:Addr).add j)=some v:=by
 intro j v h;rw [MQ,ah hg];subst htk;rw [List.getElem?_drop,List.getElem?_take] at h;split at h
 ·simpa using h
 ·cases h
theorem Al {w:World} {g:Nat} {nw:List Value} {t:TypeId} (hg:w.heap[g]? = some (.cells nw.toArray t)):∀ j v,nw[j]? = some v→w.cell? ((⟨g,0,none⟩:Addr).add j)=some v:=by
 intro j v h;rw [MQ,ah hg];simpa using h
theorem acy {α:Type} (cur:List α) (a m:Nat) (ha:a≤m) (hm:m≤cur.length):∃ A B C:List α,cur=A++(B++C)∧A.length=a∧B.length=m - a∧cur.take m=A++B∧C=cur.drop m:=by
 refine ⟨cur.take a,(cur.take m).drop a,cur.drop m,?_,by simp;omega,by simp;omega,?_,rfl⟩
 ·rw [← List.append_assoc]
  have e:cur.take a++(cur.take m).drop a=cur.take m:=by
   have h:=List.take_append_drop a (cur.take m);rw [List.take_take,Nat.min_eq_left ha] at h;exact h
  rw [e,List.take_append_drop]
 ·have h:=List.take_append_drop a (cur.take m)
  rw [List.take_take,Nat.min_eq_left ha] at h;exact h.symm
theorem I6 {α:Type} (cur xs nw:List α) (a s m:Nat) (htk:cur.take m=xs) (hc:m+s≤cur.length) (ha:a≤m) (hn:nw.length=s) :
 splice (splice cur (a+s) (xs.drop a)) a nw=xs.take a++(nw++(xs.drop a++cur.drop (m+s))):=by
 obtain ⟨A,B,C,dW,hA,hB,hT,hC⟩:=acy cur a m ha (by omega);have hx:xs=A++B:=by rw [← htk,hT]
 have e1:xs.drop a=B:=by rw [hx,← hA,List.drop_left]
 have e2:xs.take a=A:=by rw [hx,← hA,List.take_left]
 have hlen:cur.length=a+(B.length+C.length):=by rw [dW];simp [hA]
 rw [e1,e2];have e3:cur.take (a+s)=A++(B++C).take s:=by rw [dW,← hA,List.take_append];simp [List.take_of_length_le]
 have l3:((B++C).take s).length=s:=by simp;omega
 have e4:cur.drop (a+s+B.length)=cur.drop (m+s):=by congr 1;omega
 unfold splice;rw [e3,e4];have e5:(A++(B++C).take s++(B++cur.drop (m+s))).take a=A:=by rw [List.append_assoc,← hA,List.take_left]
 have e6:(A++(B++C).take s++(B++cur.drop (m+s))).drop (a+nw.length)=B++cur.drop (m+s):=by
  have:a+nw.length=(A++(B++C).take s).length:=by rw [List.length_append,hA,l3,hn]
  rw [this,List.drop_left]
 rw [e5,e6]
theorem I7 {α:Type} (cur A nw X:List α) (a s:Nat) (htk:cur.take a=A) (ha:A.length=a) (hn:nw.length=s) (_hc:a+s+X.length≤cur.length) :
 splice (splice cur a nw) (a+s) X=A++(nw++(X++cur.drop (a+s+X.length))):=by
 unfold splice;rw [htk];have e1:(A++(nw++cur.drop (a+nw.length))).take (a+s)=A++nw:=by
  have:a+s=(A++nw).length:=by simp [ha,hn]
  rw [← List.append_assoc,this,List.take_left]
 have e2:(A++(nw++cur.drop (a+nw.length))).drop (a+s+X.length)=cur.drop (a+s+X.length):=by
  rw [← List.append_assoc,List.drop_append,List.drop_eq_nil_of_le (by simp;omega),List.nil_append,List.drop_drop];congr 1
  simp only [List.length_append];omega
 rw [e1,e2];simp
theorem Y0 {α:Type} (cur xs zs:List α) (a s m:Nat) (htk:cur.take m=xs) (hc:m≤cur.length) (ha:a+s≤m) (hz:zs.length=s) :
 (splice (cur.take a++xs.drop (a+s)++cur.drop (a+(xs.drop (a+s)).length)) (m - s) zs).take (m - s)=xs.take a++xs.drop (a+s):=by
 have hl:xs.length=m:=by rw [← htk];simp;omega
 have e0:cur.take a=xs.take a:=by rw [← htk,List.take_take,Nat.min_eq_left (by omega)]
 unfold splice;rw [e0];have e1:(xs.take a++xs.drop (a+s)).length=m - s:=by simp [hl];omega
 rw [List.take_append_of_le_length (by simp [hl];omega),List.take_take,Nat.min_self];rw [show m - s=(xs.take a++xs.drop (a+s)).length from e1.symm,List.take_left]
theorem AP {α:Type} {f:α→List Value} {k:Nat} (hf:∀ y,(f y).length=k):∀ (l:List α) (i:Nat),((l.map f).flatten).take (i*k)=((l.take i).map f).flatten
 | [],i=>by simp
 | a::r,0=>by simp
 | a::r,i+1=>by
  simp only [List.map_cons,List.flatten_cons,List.take_succ_cons];rw [show (i+1)*k=(f a).length+i*k by rw [hf,Nat.add_mul];omega,List.take_length_add_append,AP hf r i]
theorem AU {α:Type} {f:α→List Value} {k:Nat} (hf:∀ y,(f y).length=k):∀ (l:List α) (i:Nat),((l.map f).flatten).drop (i*k)=((l.drop i).map f).flatten
 | [],i=>by simp
 | a::r,0=>by simp
 | a::r,i+1=>by
  simp only [List.map_cons,List.flatten_cons,List.drop_succ_cons];rw [show (i+1)*k=(f a).length+i*k by rw [hf,Nat.add_mul];omega,List.drop_length_add_append,AU hf r i]
theorem Only.trans {B:Nat} {a b c:World} (h:Only B a b) (k:Only B b c):Only B a c :=
 ⟨k.os.trans h.os,k.tape.trans h.tape,k.output.trans h.output,k.size.trans h.size,fun j hj=>(k.block j hj).trans (h.block j hj)⟩
theorem Only.drew (B:Nat) (w:World):Only B w w.drew:=⟨rfl,rfl,rfl,rfl,fun _ _=>rfl⟩
theorem qB {C:Nat} {w w':World} (hO:Only C w w'):w.grownBy w' (some C):=⟨hO.os,hO.tape,hO.output,Nat.le_of_eq hO.size.symm,fun k _ hk=>hO.block k (fun e=>hk (by rw [e]))⟩
theorem F6 {w w':World} {r:Option Nat} (h:Below w.heap.size w w'):w.grownBy w' r:=⟨h.os,h.tape,h.output,h.size,fun k hk _=>h.block k hk⟩
theorem Dh {α:Type} (A B C D:List α):(A++(B++(C++D))).take (A++(B++C)).length=A++(B++C):=by
 rw [show A++(B++(C++D))=(A++(B++C))++D by simp,List.take_left]
theorem DC {xs:List Value} (h:∀ u∈xs,u.oneCell'=true) (k:Nat):∀ u∈xs.drop k,u.oneCell'=true:=fun u hu=>h u (List.mem_of_mem_drop hu)
end
end Go.Proofs.YtignemioillaiaaGreat
