/- The book: all its lists read as their marks. -/
import Derived.Test.YtignemioillaiaaGreatG42
namespace Go.Proofs.YtignemioillaiaaGreat
set_option maxHeartbeats 8000000
set_option maxRecDepth 100000
section
open Go.RowKit Go.Lib
theorem NY {w:World} {b:Nat} {e:TypeId} {size n:Nat} {v:Value} {xs:List Value} (h:w.ownsRow b e size v n xs) (hn:0<n):∃ g c,v=.slice (some ⟨g,0,none⟩) n c∧n≤maxLen∧∀ (j:Nat) (u:Value),xs[j]? = some u→w.cell? ⟨g,j,none⟩=some u:=by
 rcases h.2 with ⟨_,h0⟩ | ⟨g,cap,cur,rfl,h2,h3,h4,h5,h6,h7⟩
 ·omega
 ·refine ⟨g,cap,rfl,Nat.le_trans h4 h5,fun j u hj=>?_⟩
  have:=World.ownsRow.cells h (g:=g) rfl j u hj;have hadd:(⟨g,0,none⟩:Addr).add j=⟨g,j,none⟩:=by unfold Addr.add;split <;> simp_all
  rw [hadd] at this;exact this
theorem rz.at {w:World} {ts te:TypeId} {size:Nat} {mk:Int→List Value} {S M:Value} {E:List (Sl×Int)} (h:rz w ts te size mk S M E) {i:Nat} {s:Sl} {m:Int} (hi:E[i]? = some (s,m)) :
 ∃ g c g' c',S=.slice (some ⟨g,0,none⟩) E.length c∧M=.slice (some ⟨g',0,none⟩) E.length c'∧E.length≤maxLen∧w.cell? ⟨g,i,none⟩=some s.val∧w.cell? ⟨g',i,none⟩=some (.int .i64 m):=by
 have hl:0<E.length:=by have:=(mV hi);omega
 obtain ⟨g,c,h1,h2,h3⟩:=NY h.own hl;obtain ⟨g',c',h1',_,h3'⟩:=NY h.marks hl;exact ⟨g,c,g',c',h1,h1',h2,h3 i _ (by simp [hi]),h3' i _ (by simp [hi])⟩
theorem aeH (cs:List Value):∀ (n k j:Nat) (u:Value),k<n→cs[j]? = some u→(List.replicate n cs).flatten[k*cs.length+j]? = some u:=by
 intro n;induction n with
 | zero=>intro k j u hk;omega
 | succ n ih =>
  intro k j u hk hj;have hjl:=(mV hj);rw [List.replicate_succ,List.flatten_cons];cases k with
  | zero=>rw [Nat.zero_mul,Nat.zero_add,List.getElem?_append_left hjl];exact hj
  | succ k =>
   rw [List.getElem?_append_right (by rw [Nat.add_mul];omega)];have:(k+1)*cs.length+j - cs.length=k*cs.length+j:=by rw [Nat.add_mul];omega
   rw [this];exact ih k j u (by omega) hj
theorem gX.at {w:World} {e:TypeId} {size:Nat} {a:Option Addr} {n c:Nat} {cs:List Value} (h:gX w e size ⟨a,n,c⟩ cs) (hc:cs.length=size) {k:Nat} (hk:k<n) :
 ∃ g,a=some ⟨g,0,none⟩∧n≤maxLen∧∀ (j:Nat) (u:Value),cs[j]? = some u→w.cell? ⟨g,k*size+j,none⟩=some u:=by
 obtain ⟨g,c',h1,h2,h3⟩:=NY h (by dsimp only;omega);simp only [Sl.val,Value.slice.injEq] at h1;obtain ⟨rfl,_,rfl⟩:=h1;refine ⟨g,rfl,h2,fun j u hj=>h3 _ u ?_⟩;subst hc;exact aeH cs n k j u hk hj
theorem gX.max {w:World} {e:TypeId} {size:Nat} {a:Option Addr} {n c:Nat} {cs:List Value} (h:gX w e size ⟨a,n,c⟩ cs):n≤maxLen:=by
 by_cases hn:0<n
 ·obtain ⟨_,_,_,h2,_⟩:=NY h hn
  exact h2
 ·have:n=0:=by omega
  subst this;exact Nat.zero_le _
theorem rz.len {w:World} {ts te:TypeId} {size:Nat} {mk:Int→List Value} {S M:Value} {E:List (Sl×Int)} (h:rz w ts te size mk S M E):∃ a c,S=.slice a E.length c:=by
 obtain ⟨a,n,c,hS⟩:=aB h.own;have h1:=h.own;rw [hS] at h1;have:=Ak h1;subst this;exact ⟨a,c,hS⟩
theorem Hf (w:World) (size:Nat):bQ w.heap.size w ⟨none,0,0⟩ size []:=⟨rfl,Nat.le_refl _,Nat.zero_le _,fun h=>absurd h (Nat.lt_irrefl 0)⟩
structure Vr (w:World) (K n:Nat) (s0 s1 s2 s3 s4 s5 s6 m0 m1 m2 m3 m4 m5 m6:Value) (e0 e1 e2 e3 e4 e5 e6:List (Sl×Int)):Prop where
 blk:w.heap[K]? = some (.cells #[.int .i64 n,s0,s1,s2,s3,s4,s5,s6,m0,m1,m2,m3,m4,m5,m6] 46)
 c0:rz w 25 128 2 ym s0 m0 e0
 c1:rz w 27 57 7 yt s1 m1 e1
 c2:rz w 26 107 2 zY s2 m2 e2
 c3:rz w (He 3) (F3 3) 20 (mkK 3) s3 m3 e3
 c4:rz w 28 103 2 yu s4 m4 e4
 c5:rz w 101 52 7 wP s5 m5 e5
 c6:rz w 29 47 1 wQ s6 m6 e6
 Rh:e3=[]
theorem Vr.later {w w':World} {K n:Nat} {s0 s1 s2 s3 s4 s5 s6 m0 m1 m2 m3 m4 m5 m6:Value} {e0 e1 e2 e3 e4 e5 e6:List (Sl×Int)} (h:Vr w K n s0 s1 s2 s3 s4 s5 s6 m0 m1 m2 m3 m4 m5 m6 e0 e1 e2 e3 e4 e5 e6) (hb:Below w.heap.size w w'):Vr w' K n s0 s1 s2 s3 s4 s5 s6 m0 m1 m2 m3 m4 m5 m6 e0 e1 e2 e3 e4 e5 e6 :=
 ⟨af hb h.blk,h.c0.below hb,h.c1.below hb,h.c2.below hb,h.c3.below hb,h.c4.below hb,h.c5.below hb,h.c6.below hb,h.Rh⟩
theorem Bk.raw {w:World} {K n:Nat} {S M:Fin 7→Value} {E:Fin 7→List (Sl×Int)} (h:Bk w K n S M E):Vr w K n (S 0) (S 1) (S 2) (S 3) (S 4) (S 5) (S 6) (M 0) (M 1) (M 2) (M 3) (M 4) (M 5) (M 6) (E 0) (E 1) (E 2) (E 3) (E 4) (E 5) (E 6) :=
 ⟨h.blk,h.oC 0,h.oC 1,h.oC 2,h.oC 3,h.oC 4,h.oC 5,h.oC 6,h.Rh⟩
theorem YD (K n:Nat) (s0 s1 s2 s3 s4 s5 s6 m0 m1 m2 m3 m4 m5 m6:Value) (e0 e1 e2 e3 e4 e5 e6:List (Sl×Int)) (w:World) (hB:Vr w K n s0 s1 s2 s3 s4 s5 s6 m0 m1 m2 m3 m4 m5 m6 e0 e1 e2 e3 e4 e5 e6) :
 Calls Tryz.prog 56 #[.pointer (some ⟨K,0,none⟩)] w fun e w'=>e=.returned (.bool true)∧Below w.heap.size w w':=by
 obtain rfl:e3=[]:=hB.Rh;obtain ⟨va,vc,hve⟩:=hB.c3.len;subst hve;have HB:=ae hB;have hcK:=ah hB.blk;clear hB;go_enter Tryz.func56,Tryz.ntmps56
 go_wp2_with fail
 refine wp_loop_rounds 1 ?_;rw [rounds_succ];go_wp2_with fail
 obtain ⟨Sa,Sc,yY⟩:=HB.out.c4.len;subst yY;go_wp2_with fail
 go_loopw [7] (fun i wr=>∃ k:Nat,k≤e4.length∧i=.int .i64 k∧Below w.heap.size w wr) (fun i _=>e4.length - (intOf i).toNat)
 case atStart=>exact ⟨0,Nat.zero_le _,rfl,Below.refl _ w⟩
 case round =>
  obtain ⟨k,hk,rfl,hT⟩:=hrel;have hcK:=ah (HB.out.later hT).blk;by_cases hlt:k<e4.length
  ·have hdk:decide ((k:Int)<(e4.length:Int))=true:=by simp;omega
   obtain ⟨⟨⟨ta,tl,tc⟩,m⟩,pY⟩:∃ x,e4[k]? = some x:=⟨e4[k]'hlt,by simp⟩;have Ug:=HB.out.c4.bnd k _ m pY;have hw1:IntKind.i64.wrap (77+m)=77+m:=by rw [IntKind.wrap_i64];omega
   have hw2:IntKind.u32.wrap (77+m)=77+m:=by have e:IntKind.u32.wrap (77+m)=(77+m)%4294967296:=rfl;rw [e];omega
   have Bv:Hid (∀ wx:World,Below w.heap.size w wx→gX wx _ 2 ⟨ta,tl,tc⟩ (yu m)):=fun wx hx=>(HB.out.c4.below hx).all k _ m pY
   have hmax:=(Bv.out _ (Below.refl _ w)).max;unfold maxLen at hmax;have hi1:(0:Int)≤(k:Int):=by omega
   have hi2:(k:Int)<(e4.length:Int):=by omega
   have Ka:e4.length≤maxLen:=by obtain ⟨_,_,_,_,_,_,h,_⟩:=HB.out.c4.at pY;exact h
   unfold maxLen at Ka;have p8:Hid (∃ g c g' c',Value.slice Sa e4.length Sc=.slice (some ⟨g,0,none⟩) e4.length c∧m4=.slice (some ⟨g',0,none⟩) e4.length c'∧∀ wx:World,Below w.heap.size w wx→wx.cell? ⟨g,k,none⟩=some (.slice ta tl tc)∧wx.cell? ⟨g',k,none⟩=some (.int .i64 m)):=by
    obtain ⟨g,c,g',c',e1,e2,_,h3,h4⟩:=HB.out.c4.at pY;refine ⟨g,c,g',c',e1,e2,fun wx hx=>?_⟩;obtain ⟨g2,c2,g2',c2',e3,e4,_,h5,h6⟩:=(HB.out.c4.below hx).at pY;rw [e1] at e3;rw [e2] at e4;cases e3
    cases e4
    exact ⟨h5,h6⟩
   obtain ⟨g,c,g',c',yY,hMe,hAt⟩:=p8.out;cases yY
   subst hMe;clear p8 pY;have p8:=ae hAt;have hc1:=(p8.out _ hT).1;go_wp2_with fail
   go_loopw [8] (fun i wx=>∃ q:Nat,q≤tl∧i=.int .i64 q∧Below w.heap.size w wx) (fun i _=>tl - (intOf i).toNat)
   case atStart=>exact ⟨0,Nat.zero_le _,rfl,hT⟩
   case round =>
    clear hcK hc1 hT;obtain ⟨q,hq,rfl,hT⟩:=hrel;have hcK:=ah (HB.out.later hT).blk;have hc1:=(p8.out _ hT).1;have hc2:=(p8.out _ hT).2;by_cases hlt2:q<tl
    ·have Ad:decide ((q:Int)<(tl:Int))=true:=by simp;omega
     obtain ⟨gt,rfl,_,hcm⟩:=(Bv.out _ hT).at rfl hlt2;unfold yu at hcm;have hi3:(0:Int)≤(q:Int):=by omega
     have hi4:(q:Int)<(tl:Int):=by omega
     have hcm0:=hcm 0 _ rfl;have hcm1:=hcm 1 _ rfl;simp only [Nat.add_zero] at hcm0;clear hcm;go_upto_region 17 with fail
     go_quiet (fail)
     go_wp2_with fail
     go_roundw
     case rel=>exact ⟨q+1,by omega,by go_num,below_drewN hT _⟩
     case measure=>simp [intOf];omega
    ·have Ad:decide ((q:Int)<(tl:Int))=false:=by simp;omega
     go_wp2_with fail
     go_roundw
     case rel=>exact ⟨k+1,by omega,by go_num,hT⟩
     case measure=>simp [intOf];omega
  ·have hdk:decide ((k:Int)<(e4.length:Int))=false:=by simp;omega
   clear hcK;have hcK:=ah (HB.out.later hT).blk;obtain ⟨Sa,Sc,yY⟩:=HB.out.c5.len;subst yY;go_wp2_with fail
   go_loopw [9] (fun i wr=>∃ k:Nat,k≤e5.length∧i=.int .i64 k∧Below w.heap.size w wr) (fun i _=>e5.length - (intOf i).toNat)
   case atStart=>exact ⟨0,Nat.zero_le _,rfl,hT⟩
   case round =>
    obtain ⟨k,hk,rfl,hT⟩:=hrel;have hcK:=ah (HB.out.later hT).blk;by_cases hlt:k<e5.length
    ·have hdk:decide ((k:Int)<(e5.length:Int))=true:=by simp;omega
     obtain ⟨⟨⟨ta,tl,tc⟩,m⟩,pY⟩:∃ x,e5[k]? = some x:=⟨e5[k]'hlt,by simp⟩;have Ug:=HB.out.c5.bnd k _ m pY;have hw1:IntKind.i64.wrap (77+m)=77+m:=by rw [IntKind.wrap_i64];omega
     have hw2:IntKind.u32.wrap (77+m)=77+m:=by have e:IntKind.u32.wrap (77+m)=(77+m)%4294967296:=rfl;rw [e];omega
     have Bv:Hid (∀ wx:World,Below w.heap.size w wx→gX wx _ 7 ⟨ta,tl,tc⟩ (wP m)):=fun wx hx=>(HB.out.c5.below hx).all k _ m pY
     have hmax:=(Bv.out _ (Below.refl _ w)).max;unfold maxLen at hmax;have hi1:(0:Int)≤(k:Int):=by omega
     have hi2:(k:Int)<(e5.length:Int):=by omega
     have Ka:e5.length≤maxLen:=by obtain ⟨_,_,_,_,_,_,h,_⟩:=HB.out.c5.at pY;exact h
     unfold maxLen at Ka;have p8:Hid (∃ g c g' c',Value.slice Sa e5.length Sc=.slice (some ⟨g,0,none⟩) e5.length c∧m5=.slice (some ⟨g',0,none⟩) e5.length c'∧∀ wx:World,Below w.heap.size w wx→wx.cell? ⟨g,k,none⟩=some (.slice ta tl tc)∧wx.cell? ⟨g',k,none⟩=some (.int .i64 m)):=by
      obtain ⟨g,c,g',c',e1,e2,_,h3,h4⟩:=HB.out.c5.at pY;refine ⟨g,c,g',c',e1,e2,fun wx hx=>?_⟩;obtain ⟨g2,c2,g2',c2',e3,e4,_,h5,h6⟩:=(HB.out.c5.below hx).at pY;rw [e1] at e3;rw [e2] at e4;cases e3
      cases e4
      exact ⟨h5,h6⟩
     obtain ⟨g,c,g',c',yY,hMe,hAt⟩:=p8.out;cases yY
     subst hMe;clear p8 pY;have p8:=ae hAt;have hc1:=(p8.out _ hT).1;go_wp2_with fail
     go_loopw [10] (fun i wx=>∃ q:Nat,q≤tl∧i=.int .i64 q∧Below w.heap.size w wx) (fun i _=>tl - (intOf i).toNat)
     case atStart=>exact ⟨0,Nat.zero_le _,rfl,hT⟩
     case round =>
      clear hcK hc1 hT;obtain ⟨q,hq,rfl,hT⟩:=hrel;have hcK:=ah (HB.out.later hT).blk;have hc1:=(p8.out _ hT).1;have hc2:=(p8.out _ hT).2;by_cases hlt2:q<tl
      ·have Ad:decide ((q:Int)<(tl:Int))=true:=by simp;omega
       obtain ⟨gt,rfl,_,hcm⟩:=(Bv.out _ hT).at rfl hlt2;unfold wP at hcm;have hi3:(0:Int)≤(q:Int):=by omega
       have hi4:(q:Int)<(tl:Int):=by omega
       have hcm0:=hcm 0 _ rfl;have hcm1:=hcm 1 _ rfl;have hcm2:=hcm 2 _ rfl;have aiJ:=hcm 3 _ rfl;have aiK:=hcm 4 _ rfl;have aiL:=hcm 5 _ rfl;have aiM:=hcm 6 _ rfl;simp only [Nat.add_zero] at hcm0;clear hcm;have MK:Hid (∀ w',Below wr.heap.size wr w'→(fun w'=>Below wr.heap.size wr w'∧w'.cell? ⟨K,6,none⟩=some (.slice (some ⟨g,0,none⟩) e5.length Sc)∧w'.cell? ⟨g,k,none⟩=some (.slice (some ⟨gt,0,none⟩) tl tc)∧w'.cell? ⟨K,13,none⟩=some (.slice (some ⟨g',0,none⟩) e5.length c')∧w'.cell? ⟨g',k,none⟩=some (.int .i64 m)∧w'.cell? ⟨gt,q*7,none⟩=some (.int .u8 0)∧w'.cell? ⟨gt,q*7+1,none⟩=some (.int .u8 0)∧w'.cell? ⟨gt,q*7+2,none⟩=some (.int .u32 (77+m))∧w'.cell? ⟨gt,q*7+3,none⟩=some (.int .u64 0)∧w'.cell? ⟨gt,q*7+4,none⟩=some (.int .u64 0)∧w'.cell? ⟨gt,q*7+5,none⟩=some (.slice none 0 0)∧w'.cell? ⟨gt,q*7+6,none⟩=some (.slice none 0 0)) w'):=ae fun w' hb=>by
        have hT9:=hT.trans (hb.mono hT.size);have Vs:=ah (HB.out.later hT9).blk;obtain ⟨gt9,aeI,_,Kc⟩:=(Bv.out _ hT9).at rfl hlt2;unfold wP at Kc;simp only [Option.some.injEq,Addr.mk.injEq,and_true] at aeI;subst aeI;exact ⟨hb,Vs 6,(p8.out _ hT9).1,Vs 13,(p8.out _ hT9).2,by simpa using Kc 0 _ rfl,Kc 1 _ rfl,Kc 2 _ rfl,Kc 3 _ rfl,Kc 4 _ rfl,Kc 5 _ rfl,Kc 6 _ rfl⟩
       go_upto_region 25 with fail
       go_region_held3 (fun w'=>Below wr.heap.size wr w'∧w'.cell? ⟨K,6,none⟩=some (.slice (some ⟨g,0,none⟩) e5.length Sc)∧w'.cell? ⟨g,k,none⟩=some (.slice (some ⟨gt,0,none⟩) tl tc)∧w'.cell? ⟨K,13,none⟩=some (.slice (some ⟨g',0,none⟩) e5.length c')∧w'.cell? ⟨g',k,none⟩=some (.int .i64 m)∧w'.cell? ⟨gt,q*7,none⟩=some (.int .u8 0)∧w'.cell? ⟨gt,q*7+1,none⟩=some (.int .u8 0)∧w'.cell? ⟨gt,q*7+2,none⟩=some (.int .u32 (77+m))∧w'.cell? ⟨gt,q*7+3,none⟩=some (.int .u64 0)∧w'.cell? ⟨gt,q*7+4,none⟩=some (.int .u64 0)∧w'.cell? ⟨gt,q*7+5,none⟩=some (.slice none 0 0)∧w'.cell? ⟨gt,q*7+6,none⟩=some (.slice none 0 0)) (first | exact MK.out _ (Below.refl _ _).drew | exact MK.out _ (fB (by assumption) (by assumption)) | exact MK.out _ (fI (by assumption))) (first | (go_at_call 41;refine (CZ 0 0 (77+m) 0 0 none 0 0 none 0 0 none 0 0 none 0 0 [] [] _ (Hf _ _) (Hf _ _) (Hf _ _) (Hf _ _)).mono ?_;rintro e w6 ⟨rfl,hb6⟩))
       have hT6:=hT.trans ((And.left (by assumption):Below wr.heap.size wr w6).mono hT.size);go_wp2_with fail
       go_roundw
       case rel=>exact ⟨q+1,by omega,by go_num,hT6⟩
       case measure=>simp [intOf];omega
      ·have Ad:decide ((q:Int)<(tl:Int))=false:=by simp;omega
       go_wp2_with fail
       go_roundw
       case rel=>exact ⟨k+1,by omega,by go_num,hT⟩
       case measure=>simp [intOf];omega
    ·have hdk:decide ((k:Int)<(e5.length:Int))=false:=by simp;omega
     clear hcK;have hcK:=ah (HB.out.later hT).blk;go_wp2_with fail
     go_ret
     exact ⟨rfl,hT⟩
theorem Ww (K n:Nat) (s0 s1 s2 s3 s4 s5 s6 m0 m1 m2 m3 m4 m5 m6:Value) (e0 e1 e2 e3 e4 e5 e6:List (Sl×Int)) (w:World) (hB:Vr w K n s0 s1 s2 s3 s4 s5 s6 m0 m1 m2 m3 m4 m5 m6 e0 e1 e2 e3 e4 e5 e6) :
 Calls Tryz.prog 17 #[.pointer (some ⟨K,0,none⟩)] w fun e w'=>e=.returned (.bool true)∧Below w.heap.size w w':=by
 have HB:=ae hB;have hcK:=ah hB.blk;clear hB;go_enter Tryz.func17,Tryz.ntmps17
 obtain ⟨Sa,Sc,yY⟩:=HB.out.c0.len;subst yY;go_wp2_with fail
 go_loopw [3] (fun i wr=>∃ k:Nat,k≤e0.length∧i=.int .i64 k∧Below w.heap.size w wr) (fun i _=>e0.length - (intOf i).toNat)
 case atStart=>exact ⟨0,Nat.zero_le _,rfl,Below.refl _ w⟩
 case round =>
  obtain ⟨k,hk,rfl,hT⟩:=hrel;have hcK:=ah (HB.out.later hT).blk;by_cases hlt:k<e0.length
  ·have hdk:decide ((k:Int)<(e0.length:Int))=true:=by simp;omega
   obtain ⟨⟨⟨ta,tl,tc⟩,m⟩,pY⟩:∃ x,e0[k]? = some x:=⟨e0[k]'hlt,by simp⟩;have Ug:=HB.out.c0.bnd k _ m pY;have hw1:IntKind.i64.wrap (77+m)=77+m:=by rw [IntKind.wrap_i64];omega
   have hw2:IntKind.u64.wrap (77+m)=77+m:=by have e:IntKind.u64.wrap (77+m)=(77+m)%18446744073709551616:=rfl;rw [e];omega
   have Bv:Hid (∀ wx:World,Below w.heap.size w wx→gX wx _ 2 ⟨ta,tl,tc⟩ (ym m)):=fun wx hx=>(HB.out.c0.below hx).all k _ m pY
   have hmax:=(Bv.out _ (Below.refl _ w)).max;unfold maxLen at hmax;have hi1:(0:Int)≤(k:Int):=by omega
   have hi2:(k:Int)<(e0.length:Int):=by omega
   have Ka:e0.length≤maxLen:=by obtain ⟨_,_,_,_,_,_,h,_⟩:=HB.out.c0.at pY;exact h
   unfold maxLen at Ka;have p8:Hid (∃ g c g' c',Value.slice Sa e0.length Sc=.slice (some ⟨g,0,none⟩) e0.length c∧m0=.slice (some ⟨g',0,none⟩) e0.length c'∧∀ wx:World,Below w.heap.size w wx→wx.cell? ⟨g,k,none⟩=some (.slice ta tl tc)∧wx.cell? ⟨g',k,none⟩=some (.int .i64 m)):=by
    obtain ⟨g,c,g',c',e1,e2,_,h3,h4⟩:=HB.out.c0.at pY;refine ⟨g,c,g',c',e1,e2,fun wx hx=>?_⟩;obtain ⟨g2,c2,g2',c2',e3,e4,_,h5,h6⟩:=(HB.out.c0.below hx).at pY;rw [e1] at e3;rw [e2] at e4;cases e3
    cases e4
    exact ⟨h5,h6⟩
   obtain ⟨g,c,g',c',yY,hMe,hAt⟩:=p8.out;cases yY
   subst hMe;clear p8 pY;have p8:=ae hAt;have hc1:=(p8.out _ hT).1;go_wp2_with fail
   go_loopw [4] (fun i wx=>∃ q:Nat,q≤tl∧i=.int .i64 q∧Below w.heap.size w wx) (fun i _=>tl - (intOf i).toNat)
   case atStart=>exact ⟨0,Nat.zero_le _,rfl,hT⟩
   case round =>
    clear hcK hc1 hT;obtain ⟨q,hq,rfl,hT⟩:=hrel;have hcK:=ah (HB.out.later hT).blk;have hc1:=(p8.out _ hT).1;have hc2:=(p8.out _ hT).2;by_cases hlt2:q<tl
    ·have Ad:decide ((q:Int)<(tl:Int))=true:=by simp;omega
     obtain ⟨gt,rfl,_,hcm⟩:=(Bv.out _ hT).at rfl hlt2;unfold ym at hcm;have hi3:(0:Int)≤(q:Int):=by omega
     have hi4:(q:Int)<(tl:Int):=by omega
     have hcm0:=hcm 0 _ rfl;have hcm1:=hcm 1 _ rfl;simp only [Nat.add_zero] at hcm0;clear hcm;go_upto_region 7 with fail
     go_quiet (fail)
     go_wp2_with fail
     go_roundw
     case rel=>exact ⟨q+1,by omega,by go_num,below_drewN hT _⟩
     case measure=>simp [intOf];omega
    ·have Ad:decide ((q:Int)<(tl:Int))=false:=by simp;omega
     go_wp2_with fail
     go_roundw
     case rel=>exact ⟨k+1,by omega,by go_num,hT⟩
     case measure=>simp [intOf];omega
  ·have hdk:decide ((k:Int)<(e0.length:Int))=false:=by simp;omega
   clear hcK;have hcK:=ah (HB.out.later hT).blk;obtain ⟨Sa,Sc,yY⟩:=HB.out.c1.len;subst yY;go_wp2_with fail
   go_loopw [5] (fun i wr=>∃ k:Nat,k≤e1.length∧i=.int .i64 k∧Below w.heap.size w wr) (fun i _=>e1.length - (intOf i).toNat)
   case atStart=>exact ⟨0,Nat.zero_le _,rfl,hT⟩
   case round =>
    obtain ⟨k,hk,rfl,hT⟩:=hrel;have hcK:=ah (HB.out.later hT).blk;by_cases hlt:k<e1.length
    ·have hdk:decide ((k:Int)<(e1.length:Int))=true:=by simp;omega
     obtain ⟨⟨⟨ta,tl,tc⟩,m⟩,pY⟩:∃ x,e1[k]? = some x:=⟨e1[k]'hlt,by simp⟩;have Ug:=HB.out.c1.bnd k _ m pY;have hw1:IntKind.i64.wrap (77+m)=77+m:=by rw [IntKind.wrap_i64];omega
     have hw2:IntKind.u64.wrap (77+m)=77+m:=by have e:IntKind.u64.wrap (77+m)=(77+m)%18446744073709551616:=rfl;rw [e];omega
     have Bv:Hid (∀ wx:World,Below w.heap.size w wx→gX wx _ 7 ⟨ta,tl,tc⟩ (yt m)):=fun wx hx=>(HB.out.c1.below hx).all k _ m pY
     have hmax:=(Bv.out _ (Below.refl _ w)).max;unfold maxLen at hmax;have hi1:(0:Int)≤(k:Int):=by omega
     have hi2:(k:Int)<(e1.length:Int):=by omega
     have Ka:e1.length≤maxLen:=by obtain ⟨_,_,_,_,_,_,h,_⟩:=HB.out.c1.at pY;exact h
     unfold maxLen at Ka;have p8:Hid (∃ g c g' c',Value.slice Sa e1.length Sc=.slice (some ⟨g,0,none⟩) e1.length c∧m1=.slice (some ⟨g',0,none⟩) e1.length c'∧∀ wx:World,Below w.heap.size w wx→wx.cell? ⟨g,k,none⟩=some (.slice ta tl tc)∧wx.cell? ⟨g',k,none⟩=some (.int .i64 m)):=by
      obtain ⟨g,c,g',c',e1,e2,_,h3,h4⟩:=HB.out.c1.at pY;refine ⟨g,c,g',c',e1,e2,fun wx hx=>?_⟩;obtain ⟨g2,c2,g2',c2',e3,e4,_,h5,h6⟩:=(HB.out.c1.below hx).at pY;rw [e1] at e3;rw [e2] at e4;cases e3
      cases e4
      exact ⟨h5,h6⟩
     obtain ⟨g,c,g',c',yY,hMe,hAt⟩:=p8.out;cases yY
     subst hMe;clear p8 pY;have p8:=ae hAt;have hc1:=(p8.out _ hT).1;go_wp2_with fail
     go_loopw [6] (fun i wx=>∃ q:Nat,q≤tl∧i=.int .i64 q∧Below w.heap.size w wx) (fun i _=>tl - (intOf i).toNat)
     case atStart=>exact ⟨0,Nat.zero_le _,rfl,hT⟩
     case round =>
      clear hcK hc1 hT;obtain ⟨q,hq,rfl,hT⟩:=hrel;have hcK:=ah (HB.out.later hT).blk;have hc1:=(p8.out _ hT).1;have hc2:=(p8.out _ hT).2;by_cases hlt2:q<tl
      ·have Ad:decide ((q:Int)<(tl:Int))=true:=by simp;omega
       obtain ⟨gt,rfl,_,hcm⟩:=(Bv.out _ hT).at rfl hlt2;unfold yt at hcm;have hi3:(0:Int)≤(q:Int):=by omega
       have hi4:(q:Int)<(tl:Int):=by omega
       have hcm0:=hcm 0 _ rfl;have hcm1:=hcm 1 _ rfl;have hcm2:=hcm 2 _ rfl;have aiJ:=hcm 3 _ rfl;have aiK:=hcm 4 _ rfl;have aiL:=hcm 5 _ rfl;have aiM:=hcm 6 _ rfl;simp only [Nat.add_zero] at hcm0;clear hcm;go_upto_region 15 with fail
       go_quiet (fail)
       go_wp2_with fail
       go_roundw
       case rel=>exact ⟨q+1,by omega,by go_num,below_drewN hT _⟩
       case measure=>simp [intOf];omega
      ·have Ad:decide ((q:Int)<(tl:Int))=false:=by simp;omega
       go_wp2_with fail
       go_roundw
       case rel=>exact ⟨k+1,by omega,by go_num,hT⟩
       case measure=>simp [intOf];omega
    ·have hdk:decide ((k:Int)<(e1.length:Int))=false:=by simp;omega
     clear hcK;have hcK:=ah (HB.out.later hT).blk;obtain ⟨Sa,Sc,yY⟩:=HB.out.c2.len;subst yY;go_wp2_with fail
     go_loopw [7] (fun i wr=>∃ k:Nat,k≤e2.length∧i=.int .i64 k∧Below w.heap.size w wr) (fun i _=>e2.length - (intOf i).toNat)
     case atStart=>exact ⟨0,Nat.zero_le _,rfl,hT⟩
     case round =>
      obtain ⟨k,hk,rfl,hT⟩:=hrel;have hcK:=ah (HB.out.later hT).blk;by_cases hlt:k<e2.length
      ·have hdk:decide ((k:Int)<(e2.length:Int))=true:=by simp;omega
       obtain ⟨⟨⟨ta,tl,tc⟩,m⟩,pY⟩:∃ x,e2[k]? = some x:=⟨e2[k]'hlt,by simp⟩;have Ug:=HB.out.c2.bnd k _ m pY;have hw1:IntKind.i64.wrap (77+m)=77+m:=by rw [IntKind.wrap_i64];omega
       have hw2:IntKind.u64.wrap (77+m)=77+m:=by have e:IntKind.u64.wrap (77+m)=(77+m)%18446744073709551616:=rfl;rw [e];omega
       have Bv:Hid (∀ wx:World,Below w.heap.size w wx→gX wx _ 2 ⟨ta,tl,tc⟩ (zY m)):=fun wx hx=>(HB.out.c2.below hx).all k _ m pY
       have hmax:=(Bv.out _ (Below.refl _ w)).max;unfold maxLen at hmax;have hi1:(0:Int)≤(k:Int):=by omega
       have hi2:(k:Int)<(e2.length:Int):=by omega
       have Ka:e2.length≤maxLen:=by obtain ⟨_,_,_,_,_,_,h,_⟩:=HB.out.c2.at pY;exact h
       unfold maxLen at Ka;have p8:Hid (∃ g c g' c',Value.slice Sa e2.length Sc=.slice (some ⟨g,0,none⟩) e2.length c∧m2=.slice (some ⟨g',0,none⟩) e2.length c'∧∀ wx:World,Below w.heap.size w wx→wx.cell? ⟨g,k,none⟩=some (.slice ta tl tc)∧wx.cell? ⟨g',k,none⟩=some (.int .i64 m)):=by
        obtain ⟨g,c,g',c',e1,e2,_,h3,h4⟩:=HB.out.c2.at pY;refine ⟨g,c,g',c',e1,e2,fun wx hx=>?_⟩;obtain ⟨g2,c2,g2',c2',e3,e4,_,h5,h6⟩:=(HB.out.c2.below hx).at pY;rw [e1] at e3;rw [e2] at e4;cases e3
        cases e4
        exact ⟨h5,h6⟩
       obtain ⟨g,c,g',c',yY,hMe,hAt⟩:=p8.out;cases yY
       subst hMe;clear p8 pY;have p8:=ae hAt;have hc1:=(p8.out _ hT).1;go_wp2_with fail
       go_loopw [8] (fun i wx=>∃ q:Nat,q≤tl∧i=.int .i64 q∧Below w.heap.size w wx) (fun i _=>tl - (intOf i).toNat)
       case atStart=>exact ⟨0,Nat.zero_le _,rfl,hT⟩
       case round =>
        clear hcK hc1 hT;obtain ⟨q,hq,rfl,hT⟩:=hrel;have hcK:=ah (HB.out.later hT).blk;have hc1:=(p8.out _ hT).1;have hc2:=(p8.out _ hT).2;by_cases hlt2:q<tl
        ·have Ad:decide ((q:Int)<(tl:Int))=true:=by simp;omega
         obtain ⟨gt,rfl,_,hcm⟩:=(Bv.out _ hT).at rfl hlt2;unfold zY at hcm;have hi3:(0:Int)≤(q:Int):=by omega
         have hi4:(q:Int)<(tl:Int):=by omega
         have hcm0:=hcm 0 _ rfl;have hcm1:=hcm 1 _ rfl;simp only [Nat.add_zero] at hcm0;clear hcm;go_upto_region 23 with fail
         go_quiet (fail)
         go_wp2_with fail
         go_roundw
         case rel=>exact ⟨q+1,by omega,by go_num,below_drewN hT _⟩
         case measure=>simp [intOf];omega
        ·have Ad:decide ((q:Int)<(tl:Int))=false:=by simp;omega
         go_wp2_with fail
         go_roundw
         case rel=>exact ⟨k+1,by omega,by go_num,hT⟩
         case measure=>simp [intOf];omega
      ·have hdk:decide ((k:Int)<(e2.length:Int))=false:=by simp;omega
       clear hcK;have hcK:=ah (HB.out.later hT).blk;obtain ⟨Sa,Sc,yY⟩:=HB.out.c6.len;subst yY;go_wp2_with fail
       go_loopw [9] (fun i wr=>∃ k:Nat,k≤e6.length∧i=.int .i64 k∧Below w.heap.size w wr) (fun i _=>e6.length - (intOf i).toNat)
       case atStart=>exact ⟨0,Nat.zero_le _,rfl,hT⟩
       case round =>
        obtain ⟨k,hk,rfl,hT⟩:=hrel;have hcK:=ah (HB.out.later hT).blk;by_cases hlt:k<e6.length
        ·have hdk:decide ((k:Int)<(e6.length:Int))=true:=by simp;omega
         obtain ⟨⟨⟨ta,tl,tc⟩,m⟩,pY⟩:∃ x,e6[k]? = some x:=⟨e6[k]'hlt,by simp⟩;have Ug:=HB.out.c6.bnd k _ m pY;have hw1:IntKind.i64.wrap (77+m)=77+m:=by rw [IntKind.wrap_i64];omega
         have hw2:IntKind.u32.wrap (77+m)=77+m:=by have e:IntKind.u32.wrap (77+m)=(77+m)%4294967296:=rfl;rw [e];omega
         have Bv:Hid (∀ wx:World,Below w.heap.size w wx→gX wx _ 1 ⟨ta,tl,tc⟩ (wQ m)):=fun wx hx=>(HB.out.c6.below hx).all k _ m pY
         have hmax:=(Bv.out _ (Below.refl _ w)).max;unfold maxLen at hmax;have hi1:(0:Int)≤(k:Int):=by omega
         have hi2:(k:Int)<(e6.length:Int):=by omega
         have Ka:e6.length≤maxLen:=by obtain ⟨_,_,_,_,_,_,h,_⟩:=HB.out.c6.at pY;exact h
         unfold maxLen at Ka;have p8:Hid (∃ g c g' c',Value.slice Sa e6.length Sc=.slice (some ⟨g,0,none⟩) e6.length c∧m6=.slice (some ⟨g',0,none⟩) e6.length c'∧∀ wx:World,Below w.heap.size w wx→wx.cell? ⟨g,k,none⟩=some (.slice ta tl tc)∧wx.cell? ⟨g',k,none⟩=some (.int .i64 m)):=by
          obtain ⟨g,c,g',c',e1,e2,_,h3,h4⟩:=HB.out.c6.at pY;refine ⟨g,c,g',c',e1,e2,fun wx hx=>?_⟩;obtain ⟨g2,c2,g2',c2',e3,e4,_,h5,h6⟩:=(HB.out.c6.below hx).at pY;rw [e1] at e3;rw [e2] at e4;cases e3
          cases e4
          exact ⟨h5,h6⟩
         obtain ⟨g,c,g',c',yY,hMe,hAt⟩:=p8.out;cases yY
         subst hMe;clear p8 pY;have p8:=ae hAt;have hc1:=(p8.out _ hT).1;go_wp2_with fail
         go_loopw [10] (fun i wx=>∃ q:Nat,q≤tl∧i=.int .i64 q∧Below w.heap.size w wx) (fun i _=>tl - (intOf i).toNat)
         case atStart=>exact ⟨0,Nat.zero_le _,rfl,hT⟩
         case round =>
          clear hcK hc1 hT;obtain ⟨q,hq,rfl,hT⟩:=hrel;have hcK:=ah (HB.out.later hT).blk;have hc1:=(p8.out _ hT).1;have hc2:=(p8.out _ hT).2;by_cases hlt2:q<tl
          ·have Ad:decide ((q:Int)<(tl:Int))=true:=by simp;omega
           obtain ⟨gt,rfl,_,hcm⟩:=(Bv.out _ hT).at rfl hlt2;unfold wQ at hcm;have hi3:(0:Int)≤(q:Int):=by omega
           have hi4:(q:Int)<(tl:Int):=by omega
           have hcm0:=hcm 0 _ rfl;simp only [Nat.add_zero,Nat.mul_one] at hcm0;clear hcm;go_upto_region 31 with fail
           go_quiet (fail)
           go_wp2_with fail
           go_roundw
           case rel=>exact ⟨q+1,by omega,by go_num,below_drewN hT _⟩
           case measure=>simp [intOf];omega
          ·have Ad:decide ((q:Int)<(tl:Int))=false:=by simp;omega
           go_wp2_with fail
           go_roundw
           case rel=>exact ⟨k+1,by omega,by go_num,hT⟩
           case measure=>simp [intOf];omega
        ·have hdk:decide ((k:Int)<(e6.length:Int))=false:=by simp;omega
         clear hcK;have hcK:=ah (HB.out.later hT).blk;go_wp2_with (first | (go_at_call 56;go_must (refine (YD K n _ _ _ _ _ _ _ _ _ _ _ _ _ _ e0 e1 e2 e3 e4 e5 e6 _ (HB.out.later hT)).mono ?_;rintro e w8 ⟨rfl,Xl⟩)))
         go_ret
         exact ⟨rfl,hT.trans (Xl.mono hT.size)⟩
theorem Uh (K n:Nat) (S M:Fin 7→Value) (E:Fin 7→List (Sl×Int)) (w:World) (hB:Bk w K n S M E) :
 Calls Tryz.prog 17 #[.pointer (some ⟨K,0,none⟩)] w fun e w'=>e=.returned (.bool true)∧Below w.heap.size w w':=Ww K n _ _ _ _ _ _ _ _ _ _ _ _ _ _ _ _ _ _ _ _ _ w hB.raw
def yH:ax:=⟨1,⟨none,0,0⟩,[]⟩
def st0 (g k:Nat):St:=⟨g,k,[],[⟨0,0⟩],[],(List.replicate k yH).map ax.core,List.replicate k 0⟩
def Lp (s:St):Prop:=∀ x∈s.O,x.2.length≤4
theorem aeJ {g k:Nat} (h:g<k) (h4:k≤4):ku (st0 g k):=by
 refine ⟨by show (0:Int)≤(g:Int);omega,by show (g:Int)<(k:Int);omega,by show (k:Int)≤4;omega,List.Pairwise.nil,List.Pairwise.nil,(by decide:nM [⟨0,0⟩]=true),⟨rfl,by decide,by decide,trivial⟩,(by decide:[(⟨0,0⟩:Pc)].length≤1000),?_,?_⟩
 ·simp [st0]
 ·simp [st0]
theorem aeK {g k:Nat}:nL 1 (st0 g k):=by
 refine ⟨Nat.zero_lt_one,Nat.zero_lt_one,fun x hx=>?_⟩;simp only [st0,List.map_replicate,List.mem_replicate] at hx;rw [hx.2];exact ⟨Nat.zero_lt_one,fun r hr=>absurd hr (List.not_mem_nil)⟩
theorem afs {g k:Nat}:Lp (st0 g k):=by
 intro x hx;simp only [st0,List.map_replicate,List.mem_replicate] at hx;rw [hx.2];exact Nat.zero_le _
theorem Lp.app {s:St} {c:dY} (h:Lp s):Lp (iy s c).1:=by
 have hdo:∀ q,Lp (qh s q):=by
  intro q;unfold qh;split
  ·exact h
  ·split
   ·exact h
   ·split
    ·rename_i hf
     intro x hx;rcases Iy hx with rfl | hx
     ·have hf2:=hf.2
      unfold om at hf2;simp at hf2;have:=hf2.1.2;simp only [List.length_append,List.length_singleton];omega
     ·exact h x hx
    ·exact h
 unfold iy;split
 ·unfold qz
  split
  ·exact h
  ·split
   ·exact h
   ·split
    ·split
     ·split
      ·exact hdo _
      ·split <;> exact h
     ·exact h
    ·exact hdo _
 ·split
  ·unfold pW
   split
   ·exact h
   ·exact h
  ·split
   ·unfold qU
    split
    ·intro x hx
     rcases Iy hx with rfl | hx
     ·rcases JN (O:=s.O) (k:=c.peer) with hm | hm
      ·exact Nat.le_trans (List.length_filter_le _ _) (h _ hm)
      ·rw [hm];exact Nat.zero_le _
     ·exact h x hx
    ·exact h
   ·exact h
theorem YE (k:Nat):nY k k=((List.replicate k yH).map ax.cells).flatten:=by
 unfold nY yH ax.cells;simp [Sl.val]
theorem aa6 (k:Nat):List.replicate k (Value.int .u32 0)=((List.replicate k (0:Int)).map yA).flatten:=by
 induction k with
 | zero=>rfl
 | succ k ih=>rw [List.replicate_succ,ih,List.replicate_succ,List.map_cons,List.flatten_cons];rfl
theorem Ke {w:World} {base g n size:Nat} {e:TypeId} {cs:List Value} (hb:base≤g) (hl:cs.length=n*size) (hn:n≤maxLen) (hW:w.heap[g]? = some (.cells cs.toArray e)):w.ownsRow base e size (.slice (some ⟨g,0,none⟩) n n) n cs:=by
 have h:=wX (w':=w) (base:=base) (g:=g) (n:=n) (cap:=n) (e:=e) (size:=size) (cur:=cs.toArray) (ys:=cs) hb (Nat.le_refl _) hn (by simpa using hl) (by simp) hW;rwa [List.take_of_length_le (by omega)] at h
theorem YF (g k:Nat) (w:World) (h1:g<k) (hk4:k≤4) :
 Calls Tryz.prog 8 #[.int .i64 g,.int .i64 k] w fun e w'=>∃ vT vM vD vO vI,e=.returned (.tuple #[.agg (rW g k vT vM vD vO vI).toArray,.int .i64 0])∧ShM w' w.heap.size vT vM vD vO vI [] [⟨0,0⟩] [] (List.replicate k yH) (List.replicate k 0)∧Below w.heap.size w w':=by
 refine (ab9 g k w (by omega) (by omega) (by omega) hk4).mono ?_;rintro e w' ⟨bM,bO,bI,rfl,hM,hO,hI,cM,cO,cI,hb⟩;have aa7:∀ l∈List.replicate k yH,l=yH:=fun l hl=>(List.mem_replicate.1 hl).2
 have Wx:mH (List.replicate k yH)=[]:=by
  unfold mH;rw [List.flatMap_eq_nil_iff];intro l hl;rw [aa7 l hl];rfl
 refine ⟨_,_,_,_,_,rfl,⟨World.ownsRow_nil _ _ _ _,Ke hM (by rfl) (by decide) cM,World.ownsRow_nil _ _ _ _,?_,?_,⟨fun l hl=>?_,?_,by rw [Wx];exact RM.nil _ _⟩,by rw [Wx];exact fun v hv=>absurd hv (List.not_mem_nil),by rw [Wx];exact fun v hv=>absurd hv (List.not_mem_nil)⟩,hb⟩
 ·have:=Ke (n:=k) (size:=2) hO (Rc (Nat.le_refl k)) (by unfold maxLen;omega) cO
  rw [YE] at this;rw [List.length_replicate];exact this
 ·have:=Ke (n:=k) (size:=1) hI (by simp) (by unfold maxLen;omega) cI
  rw [aa6] at this;rw [List.length_replicate];exact this
 ·rw [aa7 l hl];exact World.ownsRow_nil _ _ _ _
 ·unfold QV
  rw [List.pairwise_map];refine List.pairwise_replicate.2 (.inr ?_);exact .inl rfl
theorem fT.aaf (P:Nat→Prop) (w:World) (size:Nat):fT P w ⟨none,0,0⟩ size []:=⟨Hf w size,fun _=>rfl,fun h=>absurd h (Nat.lt_irrefl 0)⟩
theorem Rw (P:Nat→Prop) (g k:Nat) (w:World) (h1:g<k) (hk4:k≤4) (hP:∀ k,w.heap.size≤k→¬ P k) :
 Calls Tryz.prog 9 #[.int .i64 g,.int .i64 k] w fun e w'=>∃ sT sM sD sO sI:Sl,e=.returned (.tuple #[.agg #[.int .u8 g,.int .u8 k,sT.val,sM.val,sD.val,sO.val,sI.val],.int .i64 0])∧ry P w' sT sM sD sO sI [] [⟨0,0⟩] [] (List.replicate k yH) (List.replicate k 0)∧Below w.heap.size w w':=by
 refine (UM g k w (by omega) (by omega) (by omega) hk4).mono ?_;rintro e w' ⟨vM,vO,vI,rfl,oM,oO,oI,hb⟩;have hP':∀ k,w.heap.size+2≤k→¬ P k:=fun k hk=>hP k (by omega)
 rw [YE] at oO;rw [aa6] at oI;obtain ⟨sM,eM,rM⟩:=eH (l:=[(⟨0,0⟩:Pc)]) (f:=Pc.cells) hP' oM (fun _=>rfl);obtain ⟨sO,eO,rO⟩:=eH (l:=List.replicate k yH) (f:=ax.cells) hP' (by rw [List.length_replicate];exact oO) (fun _=>rfl);obtain ⟨sI,eI,rI⟩:=eH (l:=List.replicate k (0:Int)) (f:=yA) hP' (by rw [List.length_replicate];exact oI) FR;refine ⟨⟨none,0,0⟩,sM,⟨none,0,0⟩,sO,sI,by rw [eM,eO,eI];rfl,⟨fT.aaf P w' 2,rM,fT.aaf P w' 7,rO,rI,fun l hl=>?_⟩,hb⟩;rw [(List.mem_replicate.1 hl).2];exact ⟨fT.aaf P w' 7,fun r hr=>absurd hr (List.not_mem_nil)⟩
end
end Go.Proofs.YtignemioillaiaaGreat
