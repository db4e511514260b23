/- The document: withDup. -/
import Derived.Test.YtignemioillaiaaGreatG11
import Derived.Test.YtignemioillaiaaGreatG12
namespace Go.Proofs.YtignemioillaiaaGreat
set_option maxHeartbeats 8000000
set_option maxRecDepth 100000
section
open Go.RowKit Go.Lib
def fw (r:ak) (s:List ak×Bool) (x:ak):List ak×Bool :=
 ((if ahead r x && !s.2 then s.1++[r] else s.1)++(if x.key≠r.key∨x.c≠r.c then [x] else []),s.2 || ahead r x)
def fe (l:List ak) (r:ak):List ak:=if (l.foldl (fw r) ([],false)).2 then (l.foldl (fw r) ([],false)).1 else (l.foldl (fw r) ([],false)).1++[r]
theorem Xp (r:ak) (l:List ak):∀ s:List ak×Bool,(l.foldl (fw r) s).1.length≤s.1.length+2*l.length:=by
 induction l with
 | nil=>intro s;simp
 | cons a t ih =>
  intro s;rw [List.foldl_cons];refine Nat.le_trans (ih _) ?_;unfold fw;simp only [List.length_append,List.length_cons];split <;> split <;> simp <;> omega
theorem Ca (a:Option Addr) (n c:Nat) (T:List ak) (rc rs aC rk:Int) (rf:Bool) (rv rg:Int) (w:World) (h:bQ w.heap.size w ⟨a,n,c⟩ 7 (T.map ak.cells)) (hl:T.length<499999) :
 Calls Tryz.prog 101 #[.slice a n c,.agg (rP rc rs aC rk rf rv rg).toArray] w fun e w'=>∃ v',e=.returned v'∧w'.ownsRow w.heap.size 57 7 v' (fe T (ak.mk rc rs aC rk rf rv rg)).length ((fe T (ak.mk rc rs aC rk rf rv rg)).map ak.cells).flatten∧Below w.heap.size w w':=by
 obtain ⟨i0,hi0,hz0,hz1,hz2⟩:=info_parts zC;have hlen:n=T.length:=by simpa using h.len
 obtain ⟨W,hW⟩:∃ W,W=w.alloc (.cells (rP rc rs aC rk rf rv rg).toArray 57):=⟨_,rfl⟩;have fP:W.heap[w.heap.size]? = some (.cells (rP rc rs aC rk rf rv rg).toArray 57):=by rw [hW];exact heap_alloc_new w _
 have bE:Below w.heap.size w W:=by rw [hW];exact aj w _
 have HI:=ae (h.later bE);have HL:Hid (n=T.length):=hlen;have nX:=ae fP;have dQ:=ae bE;have hnl:n<499999:=by omega
 clear hlen h fP bE;go_enter Tryz.func101,Tryz.ntmps101
 go_upto_region 1 with fail
 rw [← hW];clear hW;go_wp2_with fail
 go_loopw [5,6,7] (fun b1 b2 i wr=>∃ (k:Nat) (vb:Value) (acc:List ak) (lb:Bool),vb=b1∧b2=.bool lb∧k≤n∧i=.int .i64 k∧Hid (((T.take k).foldl (fw (ak.mk rc rs aC rk rf rv rg)) ([],false))=(acc,lb))∧Hid (wr.ownsRow W.heap.size 57 7 vb acc.length (acc.map ak.cells).flatten)∧Hid (Below W.heap.size W wr)) (fun _ _ i _=>n - (intOf i).toNat)
 case atStart=>exact ⟨0,_,[],false,rfl,rfl,Nat.zero_le _,rfl,rfl,World.ownsRow_nil _ _ _ _,Below.refl _ _⟩
 case round =>
  obtain ⟨k,vb,acc,lb,rfl,rfl,hk,rfl,HF,HO,bV⟩:=hrel;have HN:Hid (acc.length<999999):=by
   show _<_;have h1:=Xp (ak.mk rc rs aC rk rf rv rg) (T.take k) ([],false);rw [HF.out] at h1;simp only [List.length_nil,List.length_take] at h1;omega
  by_cases hlt:k<n
  ·have hdk:decide ((k:Int)<(n:Int))=true:=by simp;omega
   obtain ⟨x,hx⟩:∃ x,T[k]? = some x:=⟨T[k]'(by rw [← HL.out];exact hlt),by simp⟩;obtain ⟨b,off,ha,j4,hc0⟩:=HI.out.el (i:=k) (x:=x.cells) (by simp [hx]);obtain rfl:a=some ⟨b,off,none⟩:=ha;have HX:Hid (T[k]? = some x):=hx;clear hx;obtain ⟨xc,xs,az,xk,xf,xv,xg⟩:=x;have qO:Hid (∀ w1,Below W.heap.size W w1→∀ (j:Nat) (u:Value),(rP xc xs az xk xf xv xg)[j]? = some u→w1.cell? ⟨b,off+k*7+j,none⟩=some u):=fun w1 hb j u hu=>(hb.cell (p:=⟨b,off+k*7+j,none⟩) j4).trans (hc0 j u hu)
   clear hc0;have hi1:(0:Int)≤(k:Int):=by omega
   have hi2:(k:Int)<(n:Int):=by omega
   have MK:Hid (∀ w',Below wr.heap.size wr w'→(Below wr.heap.size wr w'∧w'.cell? ⟨b,off+k*7,none⟩=some (.int .u8 xc)∧w'.cell? ⟨b,off+k*7+1,none⟩=some (.int .u32 xs)∧w'.cell? ⟨b,off+k*7+2,none⟩=some (.int .u64 az)∧w'.cell? ⟨b,off+k*7+3,none⟩=some (.int .u8 xk)∧w'.cell? ⟨b,off+k*7+4,none⟩=some (.bool xf)∧w'.cell? ⟨b,off+k*7+5,none⟩=some (.int .u64 xv)∧w'.cell? ⟨b,off+k*7+6,none⟩=some (.int .u8 xg)∧w'.cell? ⟨w.heap.size,0,none⟩=some (.int .u8 rc)∧w'.cell? ⟨w.heap.size,1,none⟩=some (.int .u32 rs)∧w'.cell? ⟨w.heap.size,2,none⟩=some (.int .u64 aC)∧w'.cell? ⟨w.heap.size,3,none⟩=some (.int .u8 rk)∧w'.cell? ⟨w.heap.size,4,none⟩=some (.bool rf)∧w'.cell? ⟨w.heap.size,5,none⟩=some (.int .u64 rv)∧w'.cell? ⟨w.heap.size,6,none⟩=some (.int .u8 rg))):=fun w' hb=>by
    have hb2:=ai bV.out hb;have hx:=qO.out w' hb2;have hr:=ah (af hb2 nX.out);refine ⟨hb,?_,hx 1 _ rfl,hx 2 _ rfl,hx 3 _ rfl,hx 4 _ rfl,hx 5 _ rfl,hx 6 _ rfl,hr 0,hr 1,hr 2,hr 3,hr 4,hr 5,hr 6⟩;have:=hx 0 _ rfl;rwa [Nat.add_zero] at this
   cases hah:ahead (ak.mk rc rs aC rk rf rv rg) (ak.mk xc xs az xk xf xv xg) with
   | false =>
    by_cases hke:az=aC
    ·have qH:(az≠aC)=False:=by simp [hke]
     have SF:(az != aC)=false:=by simp [hke]
     by_cases hce:xc=rc
     ·have zD:(xc≠rc)=False:=by simp [hce]
      have SG:(xc != rc)=false:=by simp [hce]
      have HE:Hid (((T.take (k+1)).foldl (fw (ak.mk rc rs aC rk rf rv rg)) ([],false))=(acc,lb)):=by
       show _=_;rw [List.take_add_one,HX.out,Option.toList_some,List.foldl_append,HF.out];simp [fw,hah,qH,zD]
      clear hke hce qH zD;go_wp2_with fail
      go_region_held3 (fun w'=>Below wr.heap.size wr w'∧w'.cell? ⟨b,off+k*7,none⟩=some (.int .u8 xc)∧w'.cell? ⟨b,off+k*7+1,none⟩=some (.int .u32 xs)∧w'.cell? ⟨b,off+k*7+2,none⟩=some (.int .u64 az)∧w'.cell? ⟨b,off+k*7+3,none⟩=some (.int .u8 xk)∧w'.cell? ⟨b,off+k*7+4,none⟩=some (.bool xf)∧w'.cell? ⟨b,off+k*7+5,none⟩=some (.int .u64 xv)∧w'.cell? ⟨b,off+k*7+6,none⟩=some (.int .u8 xg)∧w'.cell? ⟨w.heap.size,0,none⟩=some (.int .u8 rc)∧w'.cell? ⟨w.heap.size,1,none⟩=some (.int .u32 rs)∧w'.cell? ⟨w.heap.size,2,none⟩=some (.int .u64 aC)∧w'.cell? ⟨w.heap.size,3,none⟩=some (.int .u8 rk)∧w'.cell? ⟨w.heap.size,4,none⟩=some (.bool rf)∧w'.cell? ⟨w.heap.size,5,none⟩=some (.int .u64 rv)∧w'.cell? ⟨w.heap.size,6,none⟩=some (.int .u8 rg)) (first | exact MK.out _ (Below.refl _ _).drew | exact MK.out _ (fB (by assumption) (by assumption)) | exact MK.out _ (fI (by assumption))) (first | (go_at_call 103;refine (rU xc xs az xk xf xv xg rc rs aC rk rf rv rg _).mono ?_;rintro e w2 ⟨rfl,hb2⟩))
      have HB2:Hid (Below W.heap.size W w2):=ai bV.out (And.left (by assumption));have dZ:Hid (w2.ownsRow W.heap.size 57 7 vb acc.length (acc.map ak.cells).flatten):=ay HO.out (And.left (by assumption));try rw [hah]
      go_upto_region 10 with fail
      have hx2:=(qO.out _ HB2.out) 2 _ rfl;have hx0:=(qO.out _ HB2.out) 0 _ rfl;rw [Nat.add_zero] at hx0;have hr2:w2.cell? ⟨w.heap.size,2,none⟩=some (.int .u64 aC):=ah (af HB2.out nX.out) 2;have hr0:w2.cell? ⟨w.heap.size,0,none⟩=some (.int .u8 rc):=ah (af HB2.out nX.out) 0;go_quiet (fail)
      have fD:Hid (Below W.heap.size W (w2.drewN nq)):=below_drewN HB2.out _;have o6:Hid ((w2.drewN nq).ownsRow W.heap.size 57 7 vb acc.length (acc.map ak.cells).flatten):=ay dZ.out (below_drewN (Below.refl _ _) _);generalize w2.drewN nq=w4 at fD o6;clear hx2 hx0 hr2 hr0;go_wp2_with fail
      go_roundw
      case rel=>exact ⟨k+1,_,_,_,rfl,rfl,by omega,by go_num,HE.out,o6.out,fD.out⟩
      case measure=>simp [intOf];omega
     ·have zD:(xc≠rc)=True:=by simp [hce]
      have SG:(xc != rc)=true:=by simp [hce]
      have HE:Hid (((T.take (k+1)).foldl (fw (ak.mk rc rs aC rk rf rv rg)) ([],false))=((acc++[(ak.mk xc xs az xk xf xv xg)]),lb)):=by
       show _=_;rw [List.take_add_one,HX.out,Option.toList_some,List.foldl_append,HF.out];simp [fw,hah,qH,zD]
      clear hke hce qH zD;go_wp2_with fail
      go_region_held3 (fun w'=>Below wr.heap.size wr w'∧w'.cell? ⟨b,off+k*7,none⟩=some (.int .u8 xc)∧w'.cell? ⟨b,off+k*7+1,none⟩=some (.int .u32 xs)∧w'.cell? ⟨b,off+k*7+2,none⟩=some (.int .u64 az)∧w'.cell? ⟨b,off+k*7+3,none⟩=some (.int .u8 xk)∧w'.cell? ⟨b,off+k*7+4,none⟩=some (.bool xf)∧w'.cell? ⟨b,off+k*7+5,none⟩=some (.int .u64 xv)∧w'.cell? ⟨b,off+k*7+6,none⟩=some (.int .u8 xg)∧w'.cell? ⟨w.heap.size,0,none⟩=some (.int .u8 rc)∧w'.cell? ⟨w.heap.size,1,none⟩=some (.int .u32 rs)∧w'.cell? ⟨w.heap.size,2,none⟩=some (.int .u64 aC)∧w'.cell? ⟨w.heap.size,3,none⟩=some (.int .u8 rk)∧w'.cell? ⟨w.heap.size,4,none⟩=some (.bool rf)∧w'.cell? ⟨w.heap.size,5,none⟩=some (.int .u64 rv)∧w'.cell? ⟨w.heap.size,6,none⟩=some (.int .u8 rg)) (first | exact MK.out _ (Below.refl _ _).drew | exact MK.out _ (fB (by assumption) (by assumption)) | exact MK.out _ (fI (by assumption))) (first | (go_at_call 103;refine (rU xc xs az xk xf xv xg rc rs aC rk rf rv rg _).mono ?_;rintro e w2 ⟨rfl,hb2⟩))
      have HB2:Hid (Below W.heap.size W w2):=ai bV.out (And.left (by assumption));have dZ:Hid (w2.ownsRow W.heap.size 57 7 vb acc.length (acc.map ak.cells).flatten):=ay HO.out (And.left (by assumption));try rw [hah]
      go_upto_region 10 with fail
      have hx2:=(qO.out _ HB2.out) 2 _ rfl;have hx0:=(qO.out _ HB2.out) 0 _ rfl;rw [Nat.add_zero] at hx0;have hr2:w2.cell? ⟨w.heap.size,2,none⟩=some (.int .u64 aC):=ah (af HB2.out nX.out) 2;have hr0:w2.cell? ⟨w.heap.size,0,none⟩=some (.int .u8 rc):=ah (af HB2.out nX.out) 0;go_quiet (fail)
      have fD:Hid (Below W.heap.size W (w2.drewN nq)):=below_drewN HB2.out _;have o6:Hid ((w2.drewN nq).ownsRow W.heap.size 57 7 vb acc.length (acc.map ak.cells).flatten):=ay dZ.out (below_drewN (Below.refl _ _) _);generalize w2.drewN nq=w4 at fD o6;clear hx2 hx0 hr2 hr0;go_wp2_with (first
       | (with_reducible show cB 52 57 ..;go_must (refine bB rfl _ _ rfl b (off+k*7) rfl 7 _ dD rfl (by kernel_rfl) (rP xc xs az xk xf xv xg) rfl (qO.out _ fD.out) ?_))
       | (at_builtin;go_must (refine aZ _ rfl _ _ 27 rfl W.heap.size 57 i0 (.agg bA.toArray) 7 40 qy hi0 hz0 hz1 hz2 rfl (by decide) vb _ _ rfl (ay o6.out (aj w4 _)) ⟨w4.heap.size,0,none⟩ 1 1 (rP xc xs az xk xf xv xg) rfl rfl (cu rfl) (cz rfl) (by have:=HN.out;unfold maxLen;(try simp only [List.length_append,List.length_singleton]);omega) (by have:=HN.out;(try simp only [List.length_append,List.length_singleton]);omega) (by have:=fD.out.size;simp;omega) ?_;intro v5 w5 lF hg5;have fu:Hid (Below W.heap.size W w5):=ae (dO (ai fD.out (aj w4 _)) hg5 (fun j hj=>(o6.out.lt j hj).1));have ru:=ae (kZ (y:=(ak.mk xc xs az xk xf xv xg)) lF);clear lF hg5)))
      go_wp2_with fail
      go_roundw
      case rel=>exact ⟨k+1,_,_,_,rfl,rfl,by omega,by go_num,HE.out,ru.out,fu.out⟩
      case measure=>simp [intOf];omega
    ·have qH:(az≠aC)=True:=by simp [hke]
     have zD:True:=trivial;have SF:(az != aC)=true:=by simp [hke]
     have HE:Hid (((T.take (k+1)).foldl (fw (ak.mk rc rs aC rk rf rv rg)) ([],false))=((acc++[(ak.mk xc xs az xk xf xv xg)]),lb)):=by
      show _=_;rw [List.take_add_one,HX.out,Option.toList_some,List.foldl_append,HF.out];simp [fw,hah,qH]
     clear hke qH zD;go_wp2_with fail
     go_region_held3 (fun w'=>Below wr.heap.size wr w'∧w'.cell? ⟨b,off+k*7,none⟩=some (.int .u8 xc)∧w'.cell? ⟨b,off+k*7+1,none⟩=some (.int .u32 xs)∧w'.cell? ⟨b,off+k*7+2,none⟩=some (.int .u64 az)∧w'.cell? ⟨b,off+k*7+3,none⟩=some (.int .u8 xk)∧w'.cell? ⟨b,off+k*7+4,none⟩=some (.bool xf)∧w'.cell? ⟨b,off+k*7+5,none⟩=some (.int .u64 xv)∧w'.cell? ⟨b,off+k*7+6,none⟩=some (.int .u8 xg)∧w'.cell? ⟨w.heap.size,0,none⟩=some (.int .u8 rc)∧w'.cell? ⟨w.heap.size,1,none⟩=some (.int .u32 rs)∧w'.cell? ⟨w.heap.size,2,none⟩=some (.int .u64 aC)∧w'.cell? ⟨w.heap.size,3,none⟩=some (.int .u8 rk)∧w'.cell? ⟨w.heap.size,4,none⟩=some (.bool rf)∧w'.cell? ⟨w.heap.size,5,none⟩=some (.int .u64 rv)∧w'.cell? ⟨w.heap.size,6,none⟩=some (.int .u8 rg)) (first | exact MK.out _ (Below.refl _ _).drew | exact MK.out _ (fB (by assumption) (by assumption)) | exact MK.out _ (fI (by assumption))) (first | (go_at_call 103;refine (rU xc xs az xk xf xv xg rc rs aC rk rf rv rg _).mono ?_;rintro e w2 ⟨rfl,hb2⟩))
     have HB2:Hid (Below W.heap.size W w2):=ai bV.out (And.left (by assumption));have dZ:Hid (w2.ownsRow W.heap.size 57 7 vb acc.length (acc.map ak.cells).flatten):=ay HO.out (And.left (by assumption));try rw [hah]
     go_upto_region 10 with fail
     have hx2:=(qO.out _ HB2.out) 2 _ rfl;have hx0:=(qO.out _ HB2.out) 0 _ rfl;rw [Nat.add_zero] at hx0;have hr2:w2.cell? ⟨w.heap.size,2,none⟩=some (.int .u64 aC):=ah (af HB2.out nX.out) 2;have hr0:w2.cell? ⟨w.heap.size,0,none⟩=some (.int .u8 rc):=ah (af HB2.out nX.out) 0;go_quiet (fail)
     have fD:Hid (Below W.heap.size W (w2.drewN nq)):=below_drewN HB2.out _;have o6:Hid ((w2.drewN nq).ownsRow W.heap.size 57 7 vb acc.length (acc.map ak.cells).flatten):=ay dZ.out (below_drewN (Below.refl _ _) _);generalize w2.drewN nq=w4 at fD o6;clear hx2 hx0 hr2 hr0;go_wp2_with (first
      | (with_reducible show cB 52 57 ..;go_must (refine bB rfl _ _ rfl b (off+k*7) rfl 7 _ dD rfl (by kernel_rfl) (rP xc xs az xk xf xv xg) rfl (qO.out _ fD.out) ?_))
      | (at_builtin;go_must (refine aZ _ rfl _ _ 27 rfl W.heap.size 57 i0 (.agg bA.toArray) 7 40 qy hi0 hz0 hz1 hz2 rfl (by decide) vb _ _ rfl (ay o6.out (aj w4 _)) ⟨w4.heap.size,0,none⟩ 1 1 (rP xc xs az xk xf xv xg) rfl rfl (cu rfl) (cz rfl) (by have:=HN.out;unfold maxLen;(try simp only [List.length_append,List.length_singleton]);omega) (by have:=HN.out;(try simp only [List.length_append,List.length_singleton]);omega) (by have:=fD.out.size;simp;omega) ?_;intro v5 w5 lF hg5;have fu:Hid (Below W.heap.size W w5):=ae (dO (ai fD.out (aj w4 _)) hg5 (fun j hj=>(o6.out.lt j hj).1));have ru:=ae (kZ (y:=(ak.mk xc xs az xk xf xv xg)) lF);clear lF hg5)))
     go_wp2_with fail
     go_roundw
     case rel=>exact ⟨k+1,_,_,_,rfl,rfl,by omega,by go_num,HE.out,ru.out,fu.out⟩
     case measure=>simp [intOf];omega
   | true =>
    cases lb with
    | true =>
     by_cases hke:az=aC
     ·have qH:(az≠aC)=False:=by simp [hke]
      have SF:(az != aC)=false:=by simp [hke]
      by_cases hce:xc=rc
      ·have zD:(xc≠rc)=False:=by simp [hce]
       have SG:(xc != rc)=false:=by simp [hce]
       have HE:Hid (((T.take (k+1)).foldl (fw (ak.mk rc rs aC rk rf rv rg)) ([],false))=(acc,true)):=by
        show _=_;rw [List.take_add_one,HX.out,Option.toList_some,List.foldl_append,HF.out];simp [fw,hah,qH,zD]
       clear hke hce qH zD;go_wp2_with fail
       go_region_held3 (fun w'=>Below wr.heap.size wr w'∧w'.cell? ⟨b,off+k*7,none⟩=some (.int .u8 xc)∧w'.cell? ⟨b,off+k*7+1,none⟩=some (.int .u32 xs)∧w'.cell? ⟨b,off+k*7+2,none⟩=some (.int .u64 az)∧w'.cell? ⟨b,off+k*7+3,none⟩=some (.int .u8 xk)∧w'.cell? ⟨b,off+k*7+4,none⟩=some (.bool xf)∧w'.cell? ⟨b,off+k*7+5,none⟩=some (.int .u64 xv)∧w'.cell? ⟨b,off+k*7+6,none⟩=some (.int .u8 xg)∧w'.cell? ⟨w.heap.size,0,none⟩=some (.int .u8 rc)∧w'.cell? ⟨w.heap.size,1,none⟩=some (.int .u32 rs)∧w'.cell? ⟨w.heap.size,2,none⟩=some (.int .u64 aC)∧w'.cell? ⟨w.heap.size,3,none⟩=some (.int .u8 rk)∧w'.cell? ⟨w.heap.size,4,none⟩=some (.bool rf)∧w'.cell? ⟨w.heap.size,5,none⟩=some (.int .u64 rv)∧w'.cell? ⟨w.heap.size,6,none⟩=some (.int .u8 rg)) (first | exact MK.out _ (Below.refl _ _).drew | exact MK.out _ (fB (by assumption) (by assumption)) | exact MK.out _ (fI (by assumption))) (first | (go_at_call 103;refine (rU xc xs az xk xf xv xg rc rs aC rk rf rv rg _).mono ?_;rintro e w2 ⟨rfl,hb2⟩))
       have HB2:Hid (Below W.heap.size W w2):=ai bV.out (And.left (by assumption));have dZ:Hid (w2.ownsRow W.heap.size 57 7 vb acc.length (acc.map ak.cells).flatten):=ay HO.out (And.left (by assumption));try rw [hah]
       go_upto_region 10 with fail
       have hx2:=(qO.out _ HB2.out) 2 _ rfl;have hx0:=(qO.out _ HB2.out) 0 _ rfl;rw [Nat.add_zero] at hx0;have hr2:w2.cell? ⟨w.heap.size,2,none⟩=some (.int .u64 aC):=ah (af HB2.out nX.out) 2;have hr0:w2.cell? ⟨w.heap.size,0,none⟩=some (.int .u8 rc):=ah (af HB2.out nX.out) 0;go_quiet (fail)
       have fD:Hid (Below W.heap.size W (w2.drewN nq)):=below_drewN HB2.out _;have o6:Hid ((w2.drewN nq).ownsRow W.heap.size 57 7 vb acc.length (acc.map ak.cells).flatten):=ay dZ.out (below_drewN (Below.refl _ _) _);generalize w2.drewN nq=w4 at fD o6;clear hx2 hx0 hr2 hr0;go_wp2_with fail
       go_roundw
       case rel=>exact ⟨k+1,_,_,_,rfl,rfl,by omega,by go_num,HE.out,o6.out,fD.out⟩
       case measure=>simp [intOf];omega
      ·have zD:(xc≠rc)=True:=by simp [hce]
       have SG:(xc != rc)=true:=by simp [hce]
       have HE:Hid (((T.take (k+1)).foldl (fw (ak.mk rc rs aC rk rf rv rg)) ([],false))=((acc++[(ak.mk xc xs az xk xf xv xg)]),true)):=by
        show _=_;rw [List.take_add_one,HX.out,Option.toList_some,List.foldl_append,HF.out];simp [fw,hah,qH,zD]
       clear hke hce qH zD;go_wp2_with fail
       go_region_held3 (fun w'=>Below wr.heap.size wr w'∧w'.cell? ⟨b,off+k*7,none⟩=some (.int .u8 xc)∧w'.cell? ⟨b,off+k*7+1,none⟩=some (.int .u32 xs)∧w'.cell? ⟨b,off+k*7+2,none⟩=some (.int .u64 az)∧w'.cell? ⟨b,off+k*7+3,none⟩=some (.int .u8 xk)∧w'.cell? ⟨b,off+k*7+4,none⟩=some (.bool xf)∧w'.cell? ⟨b,off+k*7+5,none⟩=some (.int .u64 xv)∧w'.cell? ⟨b,off+k*7+6,none⟩=some (.int .u8 xg)∧w'.cell? ⟨w.heap.size,0,none⟩=some (.int .u8 rc)∧w'.cell? ⟨w.heap.size,1,none⟩=some (.int .u32 rs)∧w'.cell? ⟨w.heap.size,2,none⟩=some (.int .u64 aC)∧w'.cell? ⟨w.heap.size,3,none⟩=some (.int .u8 rk)∧w'.cell? ⟨w.heap.size,4,none⟩=some (.bool rf)∧w'.cell? ⟨w.heap.size,5,none⟩=some (.int .u64 rv)∧w'.cell? ⟨w.heap.size,6,none⟩=some (.int .u8 rg)) (first | exact MK.out _ (Below.refl _ _).drew | exact MK.out _ (fB (by assumption) (by assumption)) | exact MK.out _ (fI (by assumption))) (first | (go_at_call 103;refine (rU xc xs az xk xf xv xg rc rs aC rk rf rv rg _).mono ?_;rintro e w2 ⟨rfl,hb2⟩))
       have HB2:Hid (Below W.heap.size W w2):=ai bV.out (And.left (by assumption));have dZ:Hid (w2.ownsRow W.heap.size 57 7 vb acc.length (acc.map ak.cells).flatten):=ay HO.out (And.left (by assumption));try rw [hah]
       go_upto_region 10 with fail
       have hx2:=(qO.out _ HB2.out) 2 _ rfl;have hx0:=(qO.out _ HB2.out) 0 _ rfl;rw [Nat.add_zero] at hx0;have hr2:w2.cell? ⟨w.heap.size,2,none⟩=some (.int .u64 aC):=ah (af HB2.out nX.out) 2;have hr0:w2.cell? ⟨w.heap.size,0,none⟩=some (.int .u8 rc):=ah (af HB2.out nX.out) 0;go_quiet (fail)
       have fD:Hid (Below W.heap.size W (w2.drewN nq)):=below_drewN HB2.out _;have o6:Hid ((w2.drewN nq).ownsRow W.heap.size 57 7 vb acc.length (acc.map ak.cells).flatten):=ay dZ.out (below_drewN (Below.refl _ _) _);generalize w2.drewN nq=w4 at fD o6;clear hx2 hx0 hr2 hr0;go_wp2_with (first
        | (with_reducible show cB 52 57 ..;go_must (refine bB rfl _ _ rfl b (off+k*7) rfl 7 _ dD rfl (by kernel_rfl) (rP xc xs az xk xf xv xg) rfl (qO.out _ fD.out) ?_))
        | (at_builtin;go_must (refine aZ _ rfl _ _ 27 rfl W.heap.size 57 i0 (.agg bA.toArray) 7 40 qy hi0 hz0 hz1 hz2 rfl (by decide) vb _ _ rfl (ay o6.out (aj w4 _)) ⟨w4.heap.size,0,none⟩ 1 1 (rP xc xs az xk xf xv xg) rfl rfl (cu rfl) (cz rfl) (by have:=HN.out;unfold maxLen;(try simp only [List.length_append,List.length_singleton]);omega) (by have:=HN.out;(try simp only [List.length_append,List.length_singleton]);omega) (by have:=fD.out.size;simp;omega) ?_;intro v5 w5 lF hg5;have fu:Hid (Below W.heap.size W w5):=ae (dO (ai fD.out (aj w4 _)) hg5 (fun j hj=>(o6.out.lt j hj).1));have ru:=ae (kZ (y:=(ak.mk xc xs az xk xf xv xg)) lF);clear lF hg5)))
       go_wp2_with fail
       go_roundw
       case rel=>exact ⟨k+1,_,_,_,rfl,rfl,by omega,by go_num,HE.out,ru.out,fu.out⟩
       case measure=>simp [intOf];omega
     ·have qH:(az≠aC)=True:=by simp [hke]
      have zD:True:=trivial;have SF:(az != aC)=true:=by simp [hke]
      have HE:Hid (((T.take (k+1)).foldl (fw (ak.mk rc rs aC rk rf rv rg)) ([],false))=((acc++[(ak.mk xc xs az xk xf xv xg)]),true)):=by
       show _=_;rw [List.take_add_one,HX.out,Option.toList_some,List.foldl_append,HF.out];simp [fw,hah,qH]
      clear hke qH zD;go_wp2_with fail
      go_region_held3 (fun w'=>Below wr.heap.size wr w'∧w'.cell? ⟨b,off+k*7,none⟩=some (.int .u8 xc)∧w'.cell? ⟨b,off+k*7+1,none⟩=some (.int .u32 xs)∧w'.cell? ⟨b,off+k*7+2,none⟩=some (.int .u64 az)∧w'.cell? ⟨b,off+k*7+3,none⟩=some (.int .u8 xk)∧w'.cell? ⟨b,off+k*7+4,none⟩=some (.bool xf)∧w'.cell? ⟨b,off+k*7+5,none⟩=some (.int .u64 xv)∧w'.cell? ⟨b,off+k*7+6,none⟩=some (.int .u8 xg)∧w'.cell? ⟨w.heap.size,0,none⟩=some (.int .u8 rc)∧w'.cell? ⟨w.heap.size,1,none⟩=some (.int .u32 rs)∧w'.cell? ⟨w.heap.size,2,none⟩=some (.int .u64 aC)∧w'.cell? ⟨w.heap.size,3,none⟩=some (.int .u8 rk)∧w'.cell? ⟨w.heap.size,4,none⟩=some (.bool rf)∧w'.cell? ⟨w.heap.size,5,none⟩=some (.int .u64 rv)∧w'.cell? ⟨w.heap.size,6,none⟩=some (.int .u8 rg)) (first | exact MK.out _ (Below.refl _ _).drew | exact MK.out _ (fB (by assumption) (by assumption)) | exact MK.out _ (fI (by assumption))) (first | (go_at_call 103;refine (rU xc xs az xk xf xv xg rc rs aC rk rf rv rg _).mono ?_;rintro e w2 ⟨rfl,hb2⟩))
      have HB2:Hid (Below W.heap.size W w2):=ai bV.out (And.left (by assumption));have dZ:Hid (w2.ownsRow W.heap.size 57 7 vb acc.length (acc.map ak.cells).flatten):=ay HO.out (And.left (by assumption));try rw [hah]
      go_upto_region 10 with fail
      have hx2:=(qO.out _ HB2.out) 2 _ rfl;have hx0:=(qO.out _ HB2.out) 0 _ rfl;rw [Nat.add_zero] at hx0;have hr2:w2.cell? ⟨w.heap.size,2,none⟩=some (.int .u64 aC):=ah (af HB2.out nX.out) 2;have hr0:w2.cell? ⟨w.heap.size,0,none⟩=some (.int .u8 rc):=ah (af HB2.out nX.out) 0;go_quiet (fail)
      have fD:Hid (Below W.heap.size W (w2.drewN nq)):=below_drewN HB2.out _;have o6:Hid ((w2.drewN nq).ownsRow W.heap.size 57 7 vb acc.length (acc.map ak.cells).flatten):=ay dZ.out (below_drewN (Below.refl _ _) _);generalize w2.drewN nq=w4 at fD o6;clear hx2 hx0 hr2 hr0;go_wp2_with (first
       | (with_reducible show cB 52 57 ..;go_must (refine bB rfl _ _ rfl b (off+k*7) rfl 7 _ dD rfl (by kernel_rfl) (rP xc xs az xk xf xv xg) rfl (qO.out _ fD.out) ?_))
       | (at_builtin;go_must (refine aZ _ rfl _ _ 27 rfl W.heap.size 57 i0 (.agg bA.toArray) 7 40 qy hi0 hz0 hz1 hz2 rfl (by decide) vb _ _ rfl (ay o6.out (aj w4 _)) ⟨w4.heap.size,0,none⟩ 1 1 (rP xc xs az xk xf xv xg) rfl rfl (cu rfl) (cz rfl) (by have:=HN.out;unfold maxLen;(try simp only [List.length_append,List.length_singleton]);omega) (by have:=HN.out;(try simp only [List.length_append,List.length_singleton]);omega) (by have:=fD.out.size;simp;omega) ?_;intro v5 w5 lF hg5;have fu:Hid (Below W.heap.size W w5):=ae (dO (ai fD.out (aj w4 _)) hg5 (fun j hj=>(o6.out.lt j hj).1));have ru:=ae (kZ (y:=(ak.mk xc xs az xk xf xv xg)) lF);clear lF hg5)))
      go_wp2_with fail
      go_roundw
      case rel=>exact ⟨k+1,_,_,_,rfl,rfl,by omega,by go_num,HE.out,ru.out,fu.out⟩
      case measure=>simp [intOf];omega
    | false =>
     by_cases hke:az=aC
     ·have qH:(az≠aC)=False:=by simp [hke]
      have SF:(az != aC)=false:=by simp [hke]
      by_cases hce:xc=rc
      ·have zD:(xc≠rc)=False:=by simp [hce]
       have SG:(xc != rc)=false:=by simp [hce]
       have HE:Hid (((T.take (k+1)).foldl (fw (ak.mk rc rs aC rk rf rv rg)) ([],false))=((acc++[(ak.mk rc rs aC rk rf rv rg)]),true)):=by
        show _=_;rw [List.take_add_one,HX.out,Option.toList_some,List.foldl_append,HF.out];simp [fw,hah,qH,zD]
       clear hke hce qH zD;go_wp2_with fail
       go_region_held3 (fun w'=>Below wr.heap.size wr w'∧w'.cell? ⟨b,off+k*7,none⟩=some (.int .u8 xc)∧w'.cell? ⟨b,off+k*7+1,none⟩=some (.int .u32 xs)∧w'.cell? ⟨b,off+k*7+2,none⟩=some (.int .u64 az)∧w'.cell? ⟨b,off+k*7+3,none⟩=some (.int .u8 xk)∧w'.cell? ⟨b,off+k*7+4,none⟩=some (.bool xf)∧w'.cell? ⟨b,off+k*7+5,none⟩=some (.int .u64 xv)∧w'.cell? ⟨b,off+k*7+6,none⟩=some (.int .u8 xg)∧w'.cell? ⟨w.heap.size,0,none⟩=some (.int .u8 rc)∧w'.cell? ⟨w.heap.size,1,none⟩=some (.int .u32 rs)∧w'.cell? ⟨w.heap.size,2,none⟩=some (.int .u64 aC)∧w'.cell? ⟨w.heap.size,3,none⟩=some (.int .u8 rk)∧w'.cell? ⟨w.heap.size,4,none⟩=some (.bool rf)∧w'.cell? ⟨w.heap.size,5,none⟩=some (.int .u64 rv)∧w'.cell? ⟨w.heap.size,6,none⟩=some (.int .u8 rg)) (first | exact MK.out _ (Below.refl _ _).drew | exact MK.out _ (fB (by assumption) (by assumption)) | exact MK.out _ (fI (by assumption))) (first | (go_at_call 103;refine (rU xc xs az xk xf xv xg rc rs aC rk rf rv rg _).mono ?_;rintro e w2 ⟨rfl,hb2⟩))
       have HB2:Hid (Below W.heap.size W w2):=ai bV.out (And.left (by assumption));have dZ:Hid (w2.ownsRow W.heap.size 57 7 vb acc.length (acc.map ak.cells).flatten):=ay HO.out (And.left (by assumption));try rw [hah]
       go_upto_region 10 with (first
        | (with_reducible show cB 27 57 ..;go_must (refine dF w.heap.size 0 7 dD _ _ (af HB2.out nX.out) (rP rc rs aC rk rf rv rg) ?_))
        | (at_builtin;go_must (refine aZ _ rfl _ _ 27 rfl W.heap.size 57 i0 (.agg bA.toArray) 7 40 qy hi0 hz0 hz1 hz2 rfl (by decide) vb _ _ rfl (ay dZ.out (aj w2 _)) ⟨w2.heap.size,0,none⟩ 1 1 (rP rc rs aC rk rf rv rg) rfl rfl (cu rfl) (cz rfl) (by have:=HN.out;unfold maxLen;(try simp only [List.length_append,List.length_singleton]);omega) (by have:=HN.out;(try simp only [List.length_append,List.length_singleton]);omega) (by have:=HB2.out.size;simp;omega) ?_;intro v3 w3 ho3 hg3;have HB3:Hid (Below W.heap.size W w3):=ae (dO (ai HB2.out (aj w2 _)) hg3 (fun j hj=>(dZ.out.lt j hj).1));have pE:=ae (kZ (y:=(ak.mk rc rs aC rk rf rv rg)) ho3);clear ho3 hg3)))
       have hx2:=(qO.out _ HB3.out) 2 _ rfl;have hx0:=(qO.out _ HB3.out) 0 _ rfl;rw [Nat.add_zero] at hx0;have hr2:w3.cell? ⟨w.heap.size,2,none⟩=some (.int .u64 aC):=ah (af HB3.out nX.out) 2;have hr0:w3.cell? ⟨w.heap.size,0,none⟩=some (.int .u8 rc):=ah (af HB3.out nX.out) 0;go_quiet (fail)
       have fD:Hid (Below W.heap.size W (w3.drewN nq)):=below_drewN HB3.out _;have o6:Hid ((w3.drewN nq).ownsRow W.heap.size 57 7 v3 (acc++[(ak.mk rc rs aC rk rf rv rg)]).length ((acc++[(ak.mk rc rs aC rk rf rv rg)]).map ak.cells).flatten):=ay pE.out (below_drewN (Below.refl _ _) _);generalize w3.drewN nq=w4 at fD o6;clear hx2 hx0 hr2 hr0;go_wp2_with fail
       go_roundw
       case rel=>exact ⟨k+1,_,_,_,rfl,rfl,by omega,by go_num,HE.out,o6.out,fD.out⟩
       case measure=>simp [intOf];omega
      ·have zD:(xc≠rc)=True:=by simp [hce]
       have SG:(xc != rc)=true:=by simp [hce]
       have HE:Hid (((T.take (k+1)).foldl (fw (ak.mk rc rs aC rk rf rv rg)) ([],false))=(((acc++[(ak.mk rc rs aC rk rf rv rg)])++[(ak.mk xc xs az xk xf xv xg)]),true)):=by
        show _=_;rw [List.take_add_one,HX.out,Option.toList_some,List.foldl_append,HF.out];simp [fw,hah,qH,zD]
       clear hke hce qH zD;go_wp2_with fail
       go_region_held3 (fun w'=>Below wr.heap.size wr w'∧w'.cell? ⟨b,off+k*7,none⟩=some (.int .u8 xc)∧w'.cell? ⟨b,off+k*7+1,none⟩=some (.int .u32 xs)∧w'.cell? ⟨b,off+k*7+2,none⟩=some (.int .u64 az)∧w'.cell? ⟨b,off+k*7+3,none⟩=some (.int .u8 xk)∧w'.cell? ⟨b,off+k*7+4,none⟩=some (.bool xf)∧w'.cell? ⟨b,off+k*7+5,none⟩=some (.int .u64 xv)∧w'.cell? ⟨b,off+k*7+6,none⟩=some (.int .u8 xg)∧w'.cell? ⟨w.heap.size,0,none⟩=some (.int .u8 rc)∧w'.cell? ⟨w.heap.size,1,none⟩=some (.int .u32 rs)∧w'.cell? ⟨w.heap.size,2,none⟩=some (.int .u64 aC)∧w'.cell? ⟨w.heap.size,3,none⟩=some (.int .u8 rk)∧w'.cell? ⟨w.heap.size,4,none⟩=some (.bool rf)∧w'.cell? ⟨w.heap.size,5,none⟩=some (.int .u64 rv)∧w'.cell? ⟨w.heap.size,6,none⟩=some (.int .u8 rg)) (first | exact MK.out _ (Below.refl _ _).drew | exact MK.out _ (fB (by assumption) (by assumption)) | exact MK.out _ (fI (by assumption))) (first | (go_at_call 103;refine (rU xc xs az xk xf xv xg rc rs aC rk rf rv rg _).mono ?_;rintro e w2 ⟨rfl,hb2⟩))
       have HB2:Hid (Below W.heap.size W w2):=ai bV.out (And.left (by assumption));have dZ:Hid (w2.ownsRow W.heap.size 57 7 vb acc.length (acc.map ak.cells).flatten):=ay HO.out (And.left (by assumption));try rw [hah]
       go_upto_region 10 with (first
        | (with_reducible show cB 27 57 ..;go_must (refine dF w.heap.size 0 7 dD _ _ (af HB2.out nX.out) (rP rc rs aC rk rf rv rg) ?_))
        | (at_builtin;go_must (refine aZ _ rfl _ _ 27 rfl W.heap.size 57 i0 (.agg bA.toArray) 7 40 qy hi0 hz0 hz1 hz2 rfl (by decide) vb _ _ rfl (ay dZ.out (aj w2 _)) ⟨w2.heap.size,0,none⟩ 1 1 (rP rc rs aC rk rf rv rg) rfl rfl (cu rfl) (cz rfl) (by have:=HN.out;unfold maxLen;(try simp only [List.length_append,List.length_singleton]);omega) (by have:=HN.out;(try simp only [List.length_append,List.length_singleton]);omega) (by have:=HB2.out.size;simp;omega) ?_;intro v3 w3 ho3 hg3;have HB3:Hid (Below W.heap.size W w3):=ae (dO (ai HB2.out (aj w2 _)) hg3 (fun j hj=>(dZ.out.lt j hj).1));have pE:=ae (kZ (y:=(ak.mk rc rs aC rk rf rv rg)) ho3);clear ho3 hg3)))
       have hx2:=(qO.out _ HB3.out) 2 _ rfl;have hx0:=(qO.out _ HB3.out) 0 _ rfl;rw [Nat.add_zero] at hx0;have hr2:w3.cell? ⟨w.heap.size,2,none⟩=some (.int .u64 aC):=ah (af HB3.out nX.out) 2;have hr0:w3.cell? ⟨w.heap.size,0,none⟩=some (.int .u8 rc):=ah (af HB3.out nX.out) 0;go_quiet (fail)
       have fD:Hid (Below W.heap.size W (w3.drewN nq)):=below_drewN HB3.out _;have o6:Hid ((w3.drewN nq).ownsRow W.heap.size 57 7 v3 (acc++[(ak.mk rc rs aC rk rf rv rg)]).length ((acc++[(ak.mk rc rs aC rk rf rv rg)]).map ak.cells).flatten):=ay pE.out (below_drewN (Below.refl _ _) _);generalize w3.drewN nq=w4 at fD o6;clear hx2 hx0 hr2 hr0;go_wp2_with (first
        | (with_reducible show cB 52 57 ..;go_must (refine bB rfl _ _ rfl b (off+k*7) rfl 7 _ dD rfl (by kernel_rfl) (rP xc xs az xk xf xv xg) rfl (qO.out _ fD.out) ?_))
        | (at_builtin;go_must (refine aZ _ rfl _ _ 27 rfl W.heap.size 57 i0 (.agg bA.toArray) 7 40 qy hi0 hz0 hz1 hz2 rfl (by decide) v3 _ _ rfl (ay o6.out (aj w4 _)) ⟨w4.heap.size,0,none⟩ 1 1 (rP xc xs az xk xf xv xg) rfl rfl (cu rfl) (cz rfl) (by have:=HN.out;unfold maxLen;(try simp only [List.length_append,List.length_singleton]);omega) (by have:=HN.out;(try simp only [List.length_append,List.length_singleton]);omega) (by have:=fD.out.size;simp;omega) ?_;intro v5 w5 lF hg5;have fu:Hid (Below W.heap.size W w5):=ae (dO (ai fD.out (aj w4 _)) hg5 (fun j hj=>(o6.out.lt j hj).1));have ru:=ae (kZ (y:=(ak.mk xc xs az xk xf xv xg)) lF);clear lF hg5)))
       go_wp2_with fail
       go_roundw
       case rel=>exact ⟨k+1,_,_,_,rfl,rfl,by omega,by go_num,HE.out,ru.out,fu.out⟩
       case measure=>simp [intOf];omega
     ·have qH:(az≠aC)=True:=by simp [hke]
      have zD:True:=trivial;have SF:(az != aC)=true:=by simp [hke]
      have HE:Hid (((T.take (k+1)).foldl (fw (ak.mk rc rs aC rk rf rv rg)) ([],false))=(((acc++[(ak.mk rc rs aC rk rf rv rg)])++[(ak.mk xc xs az xk xf xv xg)]),true)):=by
       show _=_;rw [List.take_add_one,HX.out,Option.toList_some,List.foldl_append,HF.out];simp [fw,hah,qH]
      clear hke qH zD;go_wp2_with fail
      go_region_held3 (fun w'=>Below wr.heap.size wr w'∧w'.cell? ⟨b,off+k*7,none⟩=some (.int .u8 xc)∧w'.cell? ⟨b,off+k*7+1,none⟩=some (.int .u32 xs)∧w'.cell? ⟨b,off+k*7+2,none⟩=some (.int .u64 az)∧w'.cell? ⟨b,off+k*7+3,none⟩=some (.int .u8 xk)∧w'.cell? ⟨b,off+k*7+4,none⟩=some (.bool xf)∧w'.cell? ⟨b,off+k*7+5,none⟩=some (.int .u64 xv)∧w'.cell? ⟨b,off+k*7+6,none⟩=some (.int .u8 xg)∧w'.cell? ⟨w.heap.size,0,none⟩=some (.int .u8 rc)∧w'.cell? ⟨w.heap.size,1,none⟩=some (.int .u32 rs)∧w'.cell? ⟨w.heap.size,2,none⟩=some (.int .u64 aC)∧w'.cell? ⟨w.heap.size,3,none⟩=some (.int .u8 rk)∧w'.cell? ⟨w.heap.size,4,none⟩=some (.bool rf)∧w'.cell? ⟨w.heap.size,5,none⟩=some (.int .u64 rv)∧w'.cell? ⟨w.heap.size,6,none⟩=some (.int .u8 rg)) (first | exact MK.out _ (Below.refl _ _).drew | exact MK.out _ (fB (by assumption) (by assumption)) | exact MK.out _ (fI (by assumption))) (first | (go_at_call 103;refine (rU xc xs az xk xf xv xg rc rs aC rk rf rv rg _).mono ?_;rintro e w2 ⟨rfl,hb2⟩))
      have HB2:Hid (Below W.heap.size W w2):=ai bV.out (And.left (by assumption));have dZ:Hid (w2.ownsRow W.heap.size 57 7 vb acc.length (acc.map ak.cells).flatten):=ay HO.out (And.left (by assumption));try rw [hah]
      go_upto_region 10 with (first
       | (with_reducible show cB 27 57 ..;go_must (refine dF w.heap.size 0 7 dD _ _ (af HB2.out nX.out) (rP rc rs aC rk rf rv rg) ?_))
       | (at_builtin;go_must (refine aZ _ rfl _ _ 27 rfl W.heap.size 57 i0 (.agg bA.toArray) 7 40 qy hi0 hz0 hz1 hz2 rfl (by decide) vb _ _ rfl (ay dZ.out (aj w2 _)) ⟨w2.heap.size,0,none⟩ 1 1 (rP rc rs aC rk rf rv rg) rfl rfl (cu rfl) (cz rfl) (by have:=HN.out;unfold maxLen;(try simp only [List.length_append,List.length_singleton]);omega) (by have:=HN.out;(try simp only [List.length_append,List.length_singleton]);omega) (by have:=HB2.out.size;simp;omega) ?_;intro v3 w3 ho3 hg3;have HB3:Hid (Below W.heap.size W w3):=ae (dO (ai HB2.out (aj w2 _)) hg3 (fun j hj=>(dZ.out.lt j hj).1));have pE:=ae (kZ (y:=(ak.mk rc rs aC rk rf rv rg)) ho3);clear ho3 hg3)))
      have hx2:=(qO.out _ HB3.out) 2 _ rfl;have hx0:=(qO.out _ HB3.out) 0 _ rfl;rw [Nat.add_zero] at hx0;have hr2:w3.cell? ⟨w.heap.size,2,none⟩=some (.int .u64 aC):=ah (af HB3.out nX.out) 2;have hr0:w3.cell? ⟨w.heap.size,0,none⟩=some (.int .u8 rc):=ah (af HB3.out nX.out) 0;go_quiet (fail)
      have fD:Hid (Below W.heap.size W (w3.drewN nq)):=below_drewN HB3.out _;have o6:Hid ((w3.drewN nq).ownsRow W.heap.size 57 7 v3 (acc++[(ak.mk rc rs aC rk rf rv rg)]).length ((acc++[(ak.mk rc rs aC rk rf rv rg)]).map ak.cells).flatten):=ay pE.out (below_drewN (Below.refl _ _) _);generalize w3.drewN nq=w4 at fD o6;clear hx2 hx0 hr2 hr0;go_wp2_with (first
       | (with_reducible show cB 52 57 ..;go_must (refine bB rfl _ _ rfl b (off+k*7) rfl 7 _ dD rfl (by kernel_rfl) (rP xc xs az xk xf xv xg) rfl (qO.out _ fD.out) ?_))
       | (at_builtin;go_must (refine aZ _ rfl _ _ 27 rfl W.heap.size 57 i0 (.agg bA.toArray) 7 40 qy hi0 hz0 hz1 hz2 rfl (by decide) v3 _ _ rfl (ay o6.out (aj w4 _)) ⟨w4.heap.size,0,none⟩ 1 1 (rP xc xs az xk xf xv xg) rfl rfl (cu rfl) (cz rfl) (by have:=HN.out;unfold maxLen;(try simp only [List.length_append,List.length_singleton]);omega) (by have:=HN.out;(try simp only [List.length_append,List.length_singleton]);omega) (by have:=fD.out.size;simp;omega) ?_;intro v5 w5 lF hg5;have fu:Hid (Below W.heap.size W w5):=ae (dO (ai fD.out (aj w4 _)) hg5 (fun j hj=>(o6.out.lt j hj).1));have ru:=ae (kZ (y:=(ak.mk xc xs az xk xf xv xg)) lF);clear lF hg5)))
      go_wp2_with fail
      go_roundw
      case rel=>exact ⟨k+1,_,_,_,rfl,rfl,by omega,by go_num,HE.out,ru.out,fu.out⟩
      case measure=>simp [intOf];omega
  ·have hdk:decide ((k:Int)<(n:Int))=false:=by simp;omega
   obtain rfl:k=n:=by omega
   have wy:Hid ((T.foldl (fw (ak.mk rc rs aC rk rf rv rg)) ([],false))=(acc,lb)):=by
    have:=HF.out;rw [HL.out,List.take_length] at this;exact this
   cases lb with
   | true =>
    have HW:Hid (fe T (ak.mk rc rs aC rk rf rv rg)=acc):=by show _=_;unfold fe;rw [wy.out];rfl
    go_wp2_with fail
    go_ret
    exact ⟨_,rfl,by rw [HW.out];exact dE HO.out dQ.out.size,ai dQ.out bV.out⟩
   | false =>
    have HW:Hid (fe T (ak.mk rc rs aC rk rf rv rg)=acc++[(ak.mk rc rs aC rk rf rv rg)]):=by show _=_;unfold fe;rw [wy.out];rfl
    go_wp2_with (first
     | (with_reducible show cB 58 57 ..;go_must (refine dF w.heap.size 0 7 dD _ _ (af bV.out nX.out) (rP rc rs aC rk rf rv rg) ?_))
     | (at_builtin;go_must (refine aZ _ rfl _ _ 27 rfl W.heap.size 57 i0 (.agg bA.toArray) 7 40 qy hi0 hz0 hz1 hz2 rfl (by decide) vb _ _ rfl (ay HO.out (aj wr _)) ⟨wr.heap.size,0,none⟩ 1 1 (rP rc rs aC rk rf rv rg) rfl rfl (cu rfl) (cz rfl) (by have:=HN.out;unfold maxLen;(try simp only [List.length_append,List.length_singleton]);omega) (by have:=HN.out;(try simp only [List.length_append,List.length_singleton]);omega) (by have:=bV.out.size;simp;omega) ?_;intro v6 w6 ho6 hg6;have xR:Hid (Below W.heap.size W w6):=ae (dO (ai bV.out (aj wr _)) hg6 (fun j hj=>(HO.out.lt j hj).1));have Nf:=ae (kZ (y:=(ak.mk rc rs aC rk rf rv rg)) ho6);clear ho6 hg6)))
    go_wp2_with fail
    go_ret
    exact ⟨_,rfl,by rw [HW.out];exact dE Nf.out dQ.out.size,ai dQ.out xR.out⟩
end
end Go.Proofs.YtignemioillaiaaGreat
