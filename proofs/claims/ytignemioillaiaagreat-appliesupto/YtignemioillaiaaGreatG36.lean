/- The document's Begin. -/
import Derived.Test.YtignemioillaiaaGreatG35
namespace Go.Proofs.YtignemioillaiaaGreat
set_option maxHeartbeats 8000000
set_option maxRecDepth 100000
section
open Go.RowKit
theorem II {W:World} {cs:List Value} {t:TypeId} {b:Nat} (hb:b=W.heap.size):∀ (j:Nat) (u:Value),cs[j]? = some u→(W.alloc (.cells cs.toArray t)).cell? ((⟨b,0,none⟩:Addr).add j)=some u:=by
 intro j u h;subst hb;have hadd:(⟨W.heap.size,0,none⟩:Addr).add j=⟨W.heap.size,j,none⟩:=by unfold Addr.add;split <;> simp_all
 rw [hadd,ah (heap_alloc_new W _) j];simpa using h
theorem FZ {w w':World} {base base':Nat} {e e':TypeId} {size size':Nat} {v v' v'':Value} {n n':Nat} {xs xs':List Value} (h:w.ownsRow base e size v n xs) (h':w.ownsRow base' e' size' v' n' xs') (hne:e≠e') (hg:fC w v' w' v''):w'.ownsRow base e size v n xs:=by
 refine h.kept hg.grown ?_;rcases h.2 with ⟨rfl,_⟩ | ⟨g,cap,cur,rfl,hb,hgg,_⟩
 ·exact .inl rfl
 ·right
  intro he;rcases h'.2 with ⟨rfl,_⟩ | ⟨g',cap',cur',rfl,hb',ZZ,_⟩
  ·simp [Value.ownBlock] at he
  ·simp [Value.ownBlock] at he
   subst he;rw [hgg] at ZZ;simp at ZZ;exact hne ZZ.2
theorem fC.Re {base:Nat} {w w':World} {e:TypeId} {size n:Nat} {v v':Value} {xs:List Value} (h:fC w v w' v') (hown:w.ownsRow base e size v n xs) (hb:base≤w.heap.size):Below base w w' :=
 (Below.refl base w).grown h.grown hb (fun k hk=>(World.ownsRow.lt hown k hk).1)
theorem fC.KN {base B:Nat} {w w':World} {e:TypeId} {size n:Nat} {v v':Value} {xs:List Value} {o:Obj} (h:fC w v w' v') (hown:w.ownsRow base e size v n xs) (hB:B<base) (hW:w.heap[B]? = some o):w'.heap[B]? = some o :=
 h.blk hW (by intro e;have:=(World.ownsRow.lt hown B e.symm).1;omega)
theorem Dw {w:World} {base:Nat} {e:TypeId} {size:Nat} {v:Value} {n:Nat} {xs:List Value} (h:w.ownsRow base e size v n xs):v.oneCell'=true:=by
 obtain ⟨a,m,c,rfl⟩:=Jj h;rfl
structure RB (w wr:World) (g:Int) (k j:Nat) (vM vO vI:Value):Prop where
 cR:wr.heap[w.heap.size]? = some (.cells dS.toArray 31)
 cS:wr.heap[w.heap.size+1]? = some (.cells #[.int .u8 g,.int .u8 k,.slice none 0 0,vM,.slice none 0 0,vO,vI] 31)
 oM:wr.ownsRow (w.heap.size+2) 107 2 vM 1 [.int .u64 0,.int .u8 0]
 oO:wr.ownsRow (w.heap.size+2) 103 2 vO j (nY j j)
 oI:wr.ownsRow (w.heap.size+2) 47 1 vI j (List.replicate j (Value.int .u32 0))
 zA:Below w.heap.size w wr
 sz:w.heap.size+2≤wr.heap.size
theorem RG {p:Prop} (h:p):Hid p:=h
theorem aer:(Tryz.prog.info? 26).map (·.size)=some 1:=by kernel_rfl
theorem Z0:(Tryz.prog.info? 28).map (·.size)=some 1:=by kernel_rfl
theorem aes:(Tryz.prog.info? 29).map (·.size)=some 1:=by kernel_rfl
theorem aix {a b:Int} {x y z:Value} (hx:x.oneCell'=true) (hy:y.oneCell'=true) (hz:z.oneCell'=true):[Value.int .u8 a,.int .u8 b,.slice none 0 0,x,.slice none 0 0,y,z].all (·.oneCell')=true:=by
 simp only [List.all_cons,hx,hy,hz];rfl
theorem Yu (j:Nat):nY j j++[Value.int .u32 1,.slice none 0 0]=nY (j+1) (j+1):=by
 unfold nY;rw [List.replicate_succ',Nat.sub_self,Nat.sub_self];simp
theorem JY {cs:List Value} (h:cs.all (·.oneCell')=true):∀ u∈cs,u.oneCell'=true:=fun u hu=>List.all_eq_true.1 h u hu
theorem UM (g:Int) (k:Nat) (w:World) (h0:0≤g) (h1:g<k) (hk1:1≤k) (hk4:k≤4) :
 Calls Tryz.prog 9 #[.int .i64 g,.int .i64 k] w fun e w'=>∃ vM vO vI,e=.returned (.tuple #[.agg #[.int .u8 g,.int .u8 k,.slice none 0 0,vM,.slice none 0 0,vO,vI],.int .i64 0])∧w'.ownsRow (w.heap.size+2) 107 2 vM 1 [.int .u64 0,.int .u8 0]∧w'.ownsRow (w.heap.size+2) 103 2 vO k (nY k k)∧w'.ownsRow (w.heap.size+2) 47 1 vI k (List.replicate k (Value.int .u32 0))∧Below w.heap.size w w':=by
 obtain ⟨i0,hi0,hz0,hz1,hz2⟩:=info_parts Rb;obtain ⟨j0,hj0,hy0,hy1,hy2⟩:=info_parts Ua;obtain ⟨p0,hp0,hx0,hx1,hx2⟩:=info_parts KA;have hd0:decide ((k:Int)<1)=false:=by simp;omega
 have hd1:decide ((4:Int)<k)=false:=by simp;omega
 have hd2:decide (g<0)=false:=by simp;omega
 have hd3:decide ((k:Int)≤g)=false:=by simp;omega
 have hw:IntKind.u8.wrap g=g:=by have e:IntKind.u8.wrap g=g%256:=rfl;rw [e];omega
 have hwk:IntKind.u8.wrap (k:Int)=k:=by have e:IntKind.u8.wrap (k:Int)=(k:Int)%256:=rfl;rw [e];omega
 go_enter Tryz.func9,Tryz.ntmps9
 go_upto_region 4 with fail
 have hR0:((w.alloc (.cells dS.toArray 31)).alloc (.cells (rS g k none 0 0 none 0 0 none 0 0 none 0 0 none 0 0).toArray 31)).heap[w.heap.size]? = some (.cells dS.toArray 31):=heap_alloc2_old w _ _;have hS0:((w.alloc (.cells dS.toArray 31)).alloc (.cells (rS g k none 0 0 none 0 0 none 0 0 none 0 0 none 0 0).toArray 31)).heap[w.heap.size+1]? = some (.cells (rS g k none 0 0 none 0 0 none 0 0 none 0 0 none 0 0).toArray 31):=heap_alloc2_new w _ _;have hZ0:((w.alloc (.cells dS.toArray 31)).alloc (.cells (rS g k none 0 0 none 0 0 none 0 0 none 0 0 none 0 0).toArray 31)).heap.size=w.heap.size+2:=by simp
 have hT0:Below w.heap.size w ((w.alloc (.cells dS.toArray 31)).alloc (.cells (rS g k none 0 0 none 0 0 none 0 0 none 0 0 none 0 0).toArray 31)):=ai (aj _ _) (aj _ _);generalize ((w.alloc (.cells dS.toArray 31)).alloc (.cells (rS g k none 0 0 none 0 0 none 0 0 none 0 0 none 0 0).toArray 31))=W0 at *;have aiy:=ah hS0;have hb0:Below W0.heap.size W0 (W0.alloc (.cells #[.int .u64 0,.int .u8 0] 107)):=aj _ _;go_wp2_with (first | (with_reducible show yw 33 ..;go_must (refine aZ _ rfl _ _ 26 rfl (w.heap.size+2) 107 p0 (.agg #[.int .u64 0,.int .u8 0]) 2 16 Lv hp0 hx0 hx1 hx2 rfl (by decide) (.slice none 0 0) 0 [] rfl (World.ownsRow_nil _ _ _ _) ⟨w.heap.size+2,0,none⟩ 1 1 [.int .u64 0,.int .u8 0] rfl rfl (II hZ0.symm) (JY rfl) (by decide) (by decide) (by simp only [heap_alloc,Array.size_push];omega) ?_;intro vM w1 ho1 hg1;have hR1:=hg1.blk (af hb0 hR0) (by simp [Value.ownBlock]);have hS1:=hg1.blk (af hb0 hS0) (by simp [Value.ownBlock]);have hT1:Below w.heap.size w w1:=(hT0.trans (hb0.mono hT0.size)).grown hg1.grown (by simp only [heap_alloc,Array.size_push];omega) (by simp [Value.ownBlock]);have hz1':=hg1.grown.size)) | (with_reducible show wpList _ _ _ ({ dst:=none,op:=Op.store 26 _ _,type:=_,pos:=_,after:=_,guard:=none }::_) _ _;go_must (refine cZ rfl _ _ _ rfl rfl (w.heap.size+1) 3 rfl vM rfl aer (Dw ho1) _ _ hS1 rfl [.int .u8 g,.int .u8 k,.slice none 0 0,vM,.slice none 0 0,.slice none 0 0,.slice none 0 0] rfl ?_;intro w2 hW2 hO2)))
 have HB:Hid (RB w w2 g k 0 vM (.slice none 0 0) (.slice none 0 0)):=⟨(hO2.block _ (by omega)).trans hR1,hW2,ql ho1 hO2 (by omega),World.ownsRow_nil _ _ _ _,World.ownsRow_nil _ _ _ _,hT1.trans (hO2.below (by omega)),by rw [hO2.size];simp only [heap_alloc,Array.size_push] at hz1';omega⟩;clear hR0 hS0 hZ0 hT0 aiy hb0 ho1 hg1 hR1 hS1 hT1 hz1' hW2 hO2;go_loopw [7] (fun i wr=>∃ (j:Nat) (vO vI:Value),j≤k∧i=.int .i64 j∧Hid (RB w wr g k j vM vO vI)) (fun i _=>k - (intOf i).toNat)
 case atStart=>exact ⟨0,_,_,Nat.zero_le _,rfl,HB⟩
 case round =>
  clear HB;obtain ⟨j,vO,vI,hj,rfl,HB⟩:=hrel;have KT:=ah HB.out.cS;by_cases hlt:j<k
  ·have hdk:decide ((j:Int)<(k:Int))=true:=by simp;omega
   obtain ⟨cR,cS,oM,oO,oI,zA,sz⟩:=HB.out;have HcR:=RG cR;have HcS:=RG cS;clear cR cS HB;have hbL:Below wr.heap.size wr (wr.alloc (.cells #[.int .u32 1,.slice none 0 0] 103)):=aj _ _;have qZ:=World.ownsRow.alloc oO (.cells #[.int .u32 1,.slice none 0 0] 103);have hoB:=World.ownsRow.alloc oI (.cells #[.int .u32 1,.slice none 0 0] 103);have hoC:=World.ownsRow.alloc oM (.cells #[.int .u32 1,.slice none 0 0] 103);go_wp2_with (first | (with_reducible show yw 44 ..;go_must (refine aZ _ rfl _ _ 28 rfl (w.heap.size+2) 103 i0 (.agg #[.int .u32 0,.slice none 0 0]) 2 32 RJ hi0 hz0 hz1 hz2 rfl (by decide) vO j (nY j j) rfl qZ _ 1 1 [.int .u32 1,.slice none 0 0] rfl rfl (II rfl) (JY rfl) (by unfold maxLen;omega) (by omega) (by simp only [heap_alloc,Array.size_push];omega) ?_;intro DN w3 ho3 hg3;have aet:=FZ hoB qZ (by decide) hg3;have aeu:=FZ hoC qZ (by decide) hg3;have qA:=hg3.KN qZ (by omega) (af hbL HcR.out);have qp:=hg3.KN qZ (by omega) (af hbL HcS.out);have nV:Below w.heap.size w w3:=(zA.trans (hbL.mono zA.size)).trans ((hg3.Re qZ (by simp only [heap_alloc,Array.size_push];omega)).mono (by omega));have hz3:=hg3.grown.size)) | (with_reducible show wpList _ _ _ ({ dst:=none,op:=Op.store 28 _ _,type:=_,pos:=_,after:=_,guard:=none }::_) _ _;go_must (refine cZ rfl _ _ _ rfl rfl (w.heap.size+1) 5 rfl DN rfl Z0 (Dw ho3) _ _ qp rfl [.int .u8 g,.int .u8 k,.slice none 0 0,vM,.slice none 0 0,DN,vI] rfl ?_;intro w4 hW4 hO4;have al2:=ah hW4;have HR4:=RG ((hO4.block w.heap.size (by omega)).trans qA);have I8:=RG hW4;have aiz:=World.ownsRow.alloc (ql ho3 hO4 (by omega)) (.cells #[.int .u32 0] 47);have OV:=World.ownsRow.alloc (ql aet hO4 (by omega)) (.cells #[.int .u32 0] 47);have aiA:=World.ownsRow.alloc (ql aeu hO4 (by omega)) (.cells #[.int .u32 0] 47);have MS:Below w.heap.size w w4:=nV.trans (hO4.below (by omega));have Ld:w.heap.size+2≤w4.heap.size:=(by rw [hO4.size];simp only [heap_alloc,Array.size_push] at hz3;omega);clear qA qp hW4 hO4 ho3 aet aeu hg3 qZ hoB hoC hbL KT nV hz3;have hbL:Below w4.heap.size w4 (w4.alloc (.cells #[.int .u32 0] 47)):=aj _ _)) | (with_reducible show yw 49 ..;go_must (refine aZ _ rfl _ _ 29 rfl (w.heap.size+2) 47 j0 (.int .u32 0) 1 4 RL hj0 hy0 hy1 hy2 rfl (by decide) vI j (List.replicate j (Value.int .u32 0)) rfl OV _ 1 1 [.int .u32 0] rfl rfl (II rfl) (JY rfl) (by unfold maxLen;omega) (by omega) (by simp only [heap_alloc,Array.size_push];omega) ?_;intro FN w5 lF hg5;have aiB:=FZ aiz OV (by decide) hg5;have aiC:=FZ aiA OV (by decide) hg5;have hR5:=hg5.KN OV (by omega) (af hbL HR4.out);have hS5:=hg5.KN OV (by omega) (af hbL I8.out);have UU:Below w.heap.size w w5:=(MS.trans (hbL.mono MS.size)).trans ((hg5.Re OV (by simp only [heap_alloc,Array.size_push];omega)).mono (by omega));have Le:=hg5.grown.size)) | (with_reducible show wpList _ _ _ ({ dst:=none,op:=Op.store 29 _ _,type:=_,pos:=_,after:=_,guard:=none }::_) _ _;go_must (refine cZ rfl _ _ _ rfl rfl (w.heap.size+1) 6 rfl FN rfl aes (Dw lF) _ _ hS5 rfl [.int .u8 g,.int .u8 k,.slice none 0 0,vM,.slice none 0 0,DN,FN] rfl ?_;intro w6 Bf zx)))
   go_roundw
   case rel =>
    refine ⟨j+1,DN,FN,by omega,by go_num,⟨(zx.block w.heap.size (by omega)).trans hR5,Bf,ql aiC zx (by omega),?_,?_,UU.trans (zx.below (by omega)),?_⟩⟩
    ·rw [← Yu];exact ql aiB zx (by omega)
    ·rw [List.replicate_succ'];exact ql lF zx (by omega)
    ·rw [zx.size];simp only [heap_alloc,Array.size_push] at Le;omega
   case measure=>simp [intOf];omega
  ·have hdk:decide ((j:Int)<(k:Int))=false:=by simp;omega
   obtain rfl:j=k:=by omega
   have hcR:=HB.out.cR;have ZY:=HB.out.cS;go_wp2_with (first | (with_reducible show cB 51 31 ..;go_must (refine dF (w.heap.size+1) 0 7 fE _ _ ZY _ ?_)) | (with_reducible show wpList _ _ _ ({ dst:=none,op:=Op.store 31 _ _,type:=_,pos:=_,after:=_,guard:=none }::_) _ _;go_must (refine eu rfl _ _ _ rfl rfl w.heap.size 0 rfl _ rfl _ T9 rfl (aix (Dw HB.out.oM) (Dw HB.out.oO) (Dw HB.out.oI)) _ _ hcR rfl _ rfl ?_;intro w9 Bu oG)))
   refine bodyPost_ret (v:=.tuple #[.agg #[.int .u8 g,.int .u8 j,.slice none 0 0,vM,.slice none 0 0,vO,vI],.int .i64 0]) (FY Tryz.results9 _ _ w.heap.size 31 _ (0,0) _ rfl Bu fE rfl T9) rfl ⟨vM,vO,vI,rfl,ql HB.out.oM oG (by omega),ql HB.out.oO oG (by omega),ql HB.out.oI oG (by omega),HB.out.zA.trans (oG.below (Nat.le_refl _))⟩
end
section
open Go.RowKit Go.Lib
section
variable {P:Program} (w:World)
theorem NU (base:Nat) (t ty e:TypeId) (i:TypeInfo) (z:Value) (size bytes:Nat) (ht:P.underlying t=some (.slice e)) (hi:P.info? e=some i) (hz:i.zero=some z)
 (hsize:i.size=size) (hby:i.bytes=bytes) (hzs:z.cells.size=size) (hsz:0<size) (v:Value) (n:Nat) (xs:List Value) (hown:w.ownsRow base e size v n xs)
 (a:Addr) (m c:Nat) (news:List Value) (hl:news.length=m*size) (hnews:∀ j u,news[j]? = some u→w.cell? (a.add j)=some u) (h1:∀ u∈news,u.oneCell'=true)
 (h63:n+m≤maxLen) (hbytes:(n+m)*bytes≤140737488355328) (hbase:base≤w.heap.size) :
 ∃ v' w',(Builtin.append_ #[t,t] ty #[v,.slice (some a) m c]).run P w=.ok v' w'∧w'.ownsRow base e size v' (n+m) (xs++news)∧fC w v w' v'∧w'.ownsRow base e size v n xs:=by
 obtain ⟨v',w',hr,ho,hg⟩:=Bz (P:=P) w base t ty e i z size bytes ht hi hz hsize hby hzs hsz v n xs hown a m c news hl hnews h1 h63 hbytes hbase;refine ⟨v',w',hr,ho,hg,?_⟩;rcases hown.2 with ⟨rfl,rfl⟩ | ⟨g,cap,cur,rfl,hbg,hgg,hnc,hcm,hcs,htake⟩
 ·have hx:xs=[]:=List.eq_nil_of_length_eq_zero (by simpa using hown.1)
  subst hx;exact World.ownsRow_nil _ _ _ _
 ·have hsmall:n+m≤9223372036854775807:=by simp only [maxLen] at h63;omega
  subst hsize;subst hby;by_cases hroom:n+m≤cap
  ·have hfit:n*i.size+news.length≤cur.size:=by rw [hl,hcs,← Nat.add_mul];exact Nat.mul_le_mul_right _ hroom
   rw [run_append_room (P:=P) w t ty e i ht hi g n cap cur hgg a m c news hl hnews h1 hroom hfit] at hr;injection hr with e1 e2;subst e2;refine ⟨hown.1,.inr ⟨g,cap,_,rfl,hbg,setRow_heap w g cur _ e _ hgg,hnc,hcm,?_,?_⟩⟩
   ·simp only [List.size_toArray,List.length_append,List.length_take,List.length_drop,Array.length_toList]
    omega
   ·rw [htake,← hown.1]
    simp only [List.append_assoc];exact List.take_left
  ·rw [run_append_grow (P:=P) w t ty e i z ht hi hz ⟨g,0,none⟩ n cap xs hown.1 (hown.cells (g:=g) rfl) a m c news hl hnews (by omega) (by omega) (growslice_fits (by omega) hbytes)] at hr
   injection hr with e1 e2;subst e2;exact World.ownsRow.alloc (w:=w.drew) hown _
theorem nZ {ops:Array Oper} {rest:List Oper} {o:Oper} {a:Act} {Q:Exit→Act→World→Prop} (hgd:o.guard=none) (s x:Operand) (t:TypeId)
 (ho:o.op=.call { callee:=.builtin .append,args:=#[s,x],argTypes:=#[t,t] })
 (base:Nat) (e:TypeId) (i:TypeInfo) (z:Value) (size bytes:Nat) (ht:P.underlying t=some (.slice e)) (hi:P.info? e=some i) (hz:i.zero=some z)
 (hsize:i.size=size) (hby:i.bytes=bytes) (hzs:z.cells.size=size) (hsz:0<size) (v:Value) (n:Nat) (xs:List Value) (hs:a.eval s=v) (hown:w.ownsRow base e size v n xs)
 (ad:Addr) (m c:Nat) (news:List Value) (hx:a.eval x=.slice (some ad) m c) (hl:news.length=m*size) (hnews:∀ j u,news[j]? = some u→w.cell? (ad.add j)=some u) (h1:∀ u∈news,u.oneCell'=true)
 (h63:n+m≤maxLen) (hbytes:(n+m)*bytes≤140737488355328) (hbase:base≤w.heap.size)
 (h:∀ v' w',w'.ownsRow base e size v' (n+m) (xs++news)→fC w v w' v'→w'.ownsRow base e size v n xs→wpList P ops Q rest (a.put o.dst v') w'):wpList P ops Q (o::rest) a w :=
 wpList_plain hgd fun _ hK=>by
  obtain ⟨v',w',hr,h2,h3,h4⟩:=NU (P:=P) w base t o.type e i z size bytes ht hi hz hsize hby hzs hsz v n xs hown ad m c news hl hnews h1 h63 hbytes hbase;unfold Oper.wp execOp;simp only [ho,resolve,invoke,builtin,Sem.run_bind,Sem.run_pure,Result.andThen_ok,List.map_toArray,List.map_cons,List.map_nil,hs,hx,hr];exact hK _ _ (h v' w' h2 h3 h4)
end
def gX (w:World) (e:TypeId) (size:Nat) (s:Sl) (cs:List Value):Prop:=w.ownsRow 0 e size s.val s.len (List.replicate s.len cs).flatten
structure rz (w:World) (ts te:TypeId) (size:Nat) (mk:Int→List Value) (S M:Value) (E:List (Sl×Int)):Prop where
 own:w.ownsRow 0 ts 1 S E.length (E.map fun x=>x.1.val)
 marks:w.ownsRow 0 3 1 M E.length (E.map fun x=>Value.int .i64 x.2)
 all:∀ (i:Nat) (s:Sl) (m:Int),E[i]? = some (s,m)→gX w te size s (mk m)
 bnd:∀ (i:Nat) (s:Sl) (m:Int),E[i]? = some (s,m)→0≤m∧m≤100000000
def dH (b:Option Nat) (E:List (Sl×Int)):Prop:=∀ (i:Nat) (s:Sl) (m:Int),E[i]? = some (s,m)→∀ c,s.val.ownBlock=some c→b≠some c
theorem dH.nil (b:Option Nat):dH b []:=fun i s m h=>by simp at h
theorem dH.snoc {b:Option Nat} {E:List (Sl×Int)} {s:Sl} {m:Int} (h:dH b E) (hs:∀ c,s.val.ownBlock=some c→b≠some c):dH b (E++[(s,m)]):=by
 intro i t k hi;rw [List.getElem?_append] at hi;split at hi
 ·exact h i t k hi
 ·cases hj:i - E.length with
  | zero=>rw [hj] at hi;simp at hi;obtain ⟨rfl,rfl⟩:=hi;exact hs
  | succ n=>rw [hj] at hi;simp at hi
theorem yG {w:World} {base:Nat} {e:TypeId} {size:Nat} {v:Value} {n:Nat} {xs:List Value} (h:w.ownsRow base e size v n xs) {c:Nat} (hc:v.ownBlock=some c):∃ cur,w.heap[c]? = some (.cells cur e (0,0)):=by
 rcases h.2 with ⟨rfl,_⟩ | ⟨g,cap,cur,rfl,_,hg,_⟩
 ·cases hc
 ·simp only [Value.ownBlock,Option.some.injEq] at hc
  subst hc;exact ⟨cur,hg⟩
theorem dI {w:World} {b b':Nat} {e e':TypeId} {size size':Nat} {v v':Value} {n n':Nat} {xs xs':List Value} (h:w.ownsRow b e size v n xs) (h':w.ownsRow b' e' size' v' n' xs') (hne:e≠e'):v.ownBlock=none∨v.ownBlock≠v'.ownBlock:=by
 cases hv:v.ownBlock with
 | none=>exact .inl rfl
 | some c =>
  refine .inr fun e2=>?_
  obtain ⟨c1,h1⟩:=yG h hv;obtain ⟨c2,h2⟩:=yG h' e2.symm;rw [h1] at h2;injection h2 with h3;injection h3 with h4 h5;exact hne h5
theorem bf {w:World} {b:Nat} {e e':TypeId} {size:Nat} {v:Value} {n:Nat} {xs:List Value} {K:Nat} {cur:Array Value} {fz:Nat×Nat} (h:w.ownsRow b e size v n xs) (hK:w.heap[K]? = some (.cells cur e' fz)) (hne:e≠e'):v.ownBlock≠some K:=by
 intro hv;obtain ⟨c1,h1⟩:=yG h hv;rw [h1] at hK;injection hK with h3;injection h3 with h4 h5;exact hne h5
theorem rz.kept {w w':World} {ts te:TypeId} {size:Nat} {mk:Int→List Value} {S M:Value} {E:List (Sl×Int)} {row:Option Nat} (h:rz w ts te size mk S M E) (hg:w.grownBy w' row) (h1:S.ownBlock=none∨S.ownBlock≠row) (h2:M.ownBlock=none∨M.ownBlock≠row) (h3:dH row E):rz w' ts te size mk S M E:=by
 refine ⟨h.own.kept hg h1,h.marks.kept hg h2,fun i s m hi=>(h.all i s m hi).kept hg ?_,h.bnd⟩;cases hb:s.val.ownBlock with
 | none=>exact .inl rfl
 | some c=>exact .inr fun e=>h3 i s m hi c hb e.symm
theorem rz.below {w w':World} {ts te:TypeId} {size:Nat} {mk:Int→List Value} {S M:Value} {E:List (Sl×Int)} (h:rz w ts te size mk S M E) (hb:Below w.heap.size w w'):rz w' ts te size mk S M E :=
 ⟨ay h.own hb,ay h.marks hb,fun i s m hi=>ay (h.all i s m hi) hb,h.bnd⟩
theorem rV {C:Nat} {w w':World} (hO:Only C w w'):w.grownBy w' (some C):=⟨hO.os,hO.tape,hO.output,Nat.le_of_eq hO.size.symm,fun k _ hk=>hO.block k (fun e=>hk (by rw [e]))⟩
theorem rz.off {w:World} {ts te:TypeId} {size:Nat} {mk:Int→List Value} {S M:Value} {E:List (Sl×Int)} (h:rz w ts te size mk S M E) {K:Nat} {cur:Array Value} {e':TypeId} {fz:Nat×Nat} (hK:w.heap[K]? = some (.cells cur e' fz)) (hne:te≠e'):dH (some K) E:=by
 intro i s m hi c hc e;injection e with e2;subst e2;exact bf (h.all i s m hi) hK hne hc
theorem oH (w:World) (B o:Nat) (v:Value):Only B w (w.setCell ⟨B,o,none⟩ v) :=
 ⟨rfl,rfl,rfl,by simp,fun k hk=>heap_setCell_other w _ k v hk⟩
structure Fr (A:Nat→Prop) (w w':World):Prop where
 os:w'.os=w.os
 tape:w'.tape=w.tape
 output:w'.output=w.output
 size:w.heap.size≤w'.heap.size
 block:∀ k,k<w.heap.size→¬ A k→w'.heap[k]? = w.heap[k]?
theorem Fr.refl (A:Nat→Prop) (w:World):Fr A w w:=⟨rfl,rfl,rfl,Nat.le_refl _,fun _ _ _=>rfl⟩
theorem Fr.grown {A:Nat→Prop} {w wr w':World} {row:Option Nat} (h:Fr A w wr) (hg:wr.grownBy w' row) (hr:∀ k,row=some k→A k∨w.heap.size≤k):Fr A w w' :=
 ⟨hg.os.trans h.os,hg.tape.trans h.tape,hg.output.trans h.output,Nat.le_trans h.size hg.size,fun k hk hA=>(hg.block k (Nat.lt_of_lt_of_le hk h.size) (fun e=>by rcases hr k e.symm with h1 | h1;exact hA h1;omega)).trans (h.block k hk hA)⟩
theorem Fr.later {A:Nat→Prop} {w wr w':World} (h:Fr A w wr) (hb:Below wr.heap.size wr w'):Fr A w w' :=
 ⟨hb.os.trans h.os,hb.tape.trans h.tape,hb.output.trans h.output,Nat.le_trans h.size hb.size,fun k hk hA=>(hb.block k (Nat.lt_of_lt_of_le hk h.size)).trans (h.block k hk hA)⟩
structure Af (te ts:TypeId):Prop where
 es:te≠ts
 ei:te≠3
 si:ts≠3
 eb:te≠46
 sb:ts≠46
def Ahead (E:List (Sl×Int)) (t:Sl) (n:Int):Prop:=∀ (i:Nat) (s:Sl) (m:Int),E[i]? = some (s,m)→s.val.ownBlock=none∨s.val.ownBlock≠t.val.ownBlock∨(s.a=t.a∧s.cap=t.cap∧s.len≤t.len∧m=n)
theorem zS {E:List (Sl×Int)} {t s:Sl} {n m:Int} {i:Nat} (h:(E++[(t,n)])[i]? = some (s,m)):E[i]? = some (s,m)∨s=t∧m=n:=by
 rw [List.getElem?_append] at h;split at h
 ·exact .inl h
 ·cases hj:i - E.length with
  | zero=>rw [hj] at h;simp at h;exact .inr ⟨h.1.symm,h.2.symm⟩
  | succ k=>rw [hj] at h;simp at h
theorem Z4 (cs:List Value) (a b:Nat) (h:a≤b):(List.replicate b cs).flatten.take (a*cs.length)=(List.replicate a cs).flatten:=by
 obtain ⟨d,rfl⟩:=Nat.exists_eq_add_of_le h;rw [← List.replicate_append_replicate,List.flatten_append];have:a*cs.length=(List.replicate a cs).flatten.length:=by simp
 rw [this];exact List.take_left
theorem NV {w:World} {e:TypeId} {size:Nat} {s t:Sl} {cs:List Value} (h:gX w e size t cs) (hc:cs.length=size) (ha:s.a=t.a) (hp:s.cap=t.cap) (hl:s.len≤t.len):gX w e size s cs:=by
 obtain ⟨sa,sl,sc⟩:=s;obtain ⟨ta,tl,tc⟩:=t;dsimp only at ha hp hl;subst ha;subst hp;unfold gX at h ⊢;refine ⟨by simp [hc],?_⟩;rcases h.2 with ⟨h1,h2⟩ | ⟨g,cap,cur,h1,h2,h3,h4,h5,h6,h7⟩
 ·simp only [Sl.val,Value.slice.injEq] at h1
  obtain ⟨rfl,rfl,rfl⟩:=h1;dsimp only at hl ⊢;have:sl=0:=by omega
  subst this;exact .inl ⟨rfl,rfl⟩
 ·simp only [Sl.val,Value.slice.injEq] at h1
  obtain ⟨rfl,_,rfl⟩:=h1;refine .inr ⟨g,sc,cur,rfl,h2,h3,Nat.le_trans hl h4,h5,h6,?_⟩;dsimp only at h7 ⊢;have h8:=congrArg (List.take (sl*size)) h7;rw [List.take_take,Nat.min_eq_left (Nat.mul_le_mul_right _ hl)] at h8;rw [h8,← hc];exact Z4 cs sl tl hl
structure fO (te ts:TypeId) (size:Nat) (mk:Int→List Value) (KC:Value→Value→Array Value) (w wr:World) (A:Nat→Prop) (K bm:Nat) (n:Int) (S M:Value) (t:Sl) (ES EM:List (Sl×Int)) (Z:Nat→Prop):Prop where
 blk:wr.heap[K]? = some (.cells (KC S M) 46)
 mark:wr.heap[bm]? = some (.cells (mk n).toArray te)
 own:wr.ownsRow 0 ts 1 S ES.length (ES.map fun x=>x.1.val)
 marks:wr.ownsRow 0 3 1 M EM.length (EM.map fun x=>Value.int .i64 x.2)
 all:∀ (i:Nat) (s:Sl) (m:Int),ES[i]? = some (s,m)→gX wr te size s (mk m)
 ahead:Ahead ES t n
 tm:gX wr te size t (mk n)
 fr:Fr A w wr
 kA:A K
 kb:K≠bm
 sS:∀ k,S.ownBlock=some k→A k∨w.heap.size≤k
 sM:∀ k,M.ownBlock=some k→A k∨w.heap.size≤k
 sT:∀ k,t.val.ownBlock=some k→A k∨w.heap.size≤k
 off:∀ c,c<w.heap.size→¬ A c→Z c→dH (some c) ES
 tb:t.val.ownBlock≠some bm
 bnd:∀ (i:Nat) (s:Sl) (m:Int),ES[i]? = some (s,m)→0≤m∧m≤100000000
 nb:0≤n∧n≤100000000
section
variable {te ts:TypeId} {size:Nat} {mk:Int→List Value} {KC:Value→Value→Array Value} {w wr:World} {A:Nat→Prop} {K bm:Nat} {n:Int} {S M:Value} {t:Sl} {ES EM:List (Sl×Int)} {Z:Nat→Prop}
theorem origin {v v':Value} {wa w5:World} (hs:∀ k,v.ownBlock=some k→A k∨w.heap.size≤k) (hg:fC wa v w5 v') (hl:w.heap.size≤wa.heap.size):∀ k,v'.ownBlock=some k→A k∨w.heap.size≤k:=by
 intro k hk;rcases hg.own with h | h
 ·exact hs k (h ▸ hk)
 ·exact .inr (Nat.le_trans hl (h k hk))
theorem fO.later {w':World} (h:fO te ts size mk KC w wr A K bm n S M t ES EM Z) (hb:Below wr.heap.size wr w'):fO te ts size mk KC w w' A K bm n S M t ES EM Z :=
 ⟨af hb h.blk,af hb h.mark,ay h.own hb,ay h.marks hb,fun i s m hi=>ay (h.all i s m hi) hb,h.ahead,ay h.tm hb,h.fr.later hb,h.kA,h.kb,h.sS,h.sM,h.sT,h.off,h.tb,h.bnd,h.nb⟩
theorem fO.join {w5 w6:World} {S':Value} {o:Obj} (hk:Af te ts) (h:fO te ts size mk KC w wr A K bm n S M t ES EM Z) (ho:w5.ownsRow 0 ts 1 S' (ES.length+1) ((ES.map fun x=>x.1.val)++[t.val])) (hg:fC (wr.alloc o) S w5 S')
 (hW:w6.heap[K]? = some (.cells (KC S' M) 46)) (hO:Only K w5 w6):fO te ts size mk KC w w6 A K bm n S' M t (ES++[(t,n)]) EM Z:=by
 have h1:=h.later (aj wr o);have rH:=hg.blk h1.blk (Ne.symm (bf h1.own h1.blk hk.sb));have hb5:=hg.blk h1.mark (Ne.symm (bf h1.own h1.mark (Ne.symm hk.es)));have gO:=rV hO;have he:∀ s m,gX (wr.alloc o) te size s (mk m)→gX w6 te size s (mk m):=fun s m hm=>by
  have a1:=World.ownsRow.kept hm hg.grown (dI hm h1.own hk.es);exact World.ownsRow.kept a1 gO (.inr (bf a1 rH hk.eb))
 have Ck:=h1.marks.kept hg.grown (dI h1.marks h1.own (Ne.symm hk.si));refine ⟨hW,(hO.block bm (Ne.symm h.kb)).trans hb5,?_,Ck.kept gO (.inr (bf Ck rH (by decide))),?_,?_,he t n h1.tm,(h1.fr.grown hg.grown h.sS).grown gO (fun k e=>.inl (by injection e with e;rw [← e];exact h.kA)),h.kA,h.kb,origin h.sS hg h1.fr.size,h.sM,h.sT,?_,h.tb,(fun i s m hi=>by rcases zS hi with h2 | ⟨rfl,rfl⟩;exact h.bnd i s m h2;exact h.nb),h.nb⟩
 ·rw [List.length_append,List.map_append]
  exact (World.ownsRow.kept ho gO (.inr (bf ho rH hk.sb)))
 ·intro i s m hi
  rcases zS hi with h2 | ⟨rfl,rfl⟩
  ·exact he s m (h1.all i s m h2)
  ·exact he s m h1.tm
 ·intro i s m hi
  rcases zS hi with h2 | ⟨rfl,rfl⟩
  ·exact h.ahead i s m h2
  ·exact .inr (.inr ⟨rfl,rfl,Nat.le_refl _,rfl⟩)
 ·intro c hc hA hZ
  refine dH.snoc (h.off c hc hA hZ) fun k hk2 e=>?_
  injection e with e;subst e;rcases h.sT c hk2 with h3 | h3
  ·exact hA h3
  ·omega
theorem fO.count {w5 w6:World} {M':Value} {o:Obj} (hk:Af te ts) (h:fO te ts size mk KC w wr A K bm n S M t ES EM Z) (ho:w5.ownsRow 0 3 1 M' (EM.length+1) ((EM.map fun x=>Value.int .i64 x.2)++[.int .i64 n])) (hg:fC (wr.alloc o) M w5 M')
 (hW:w6.heap[K]? = some (.cells (KC S M') 46)) (hO:Only K w5 w6):fO te ts size mk KC w w6 A K bm n S M' t ES (EM++[(t,n)]) Z:=by
 have h1:=h.later (aj wr o);have rH:=hg.blk h1.blk (Ne.symm (bf h1.marks h1.blk (by decide)));have hb5:=hg.blk h1.mark (Ne.symm (bf h1.marks h1.mark (Ne.symm hk.ei)));have gO:=rV hO;have he:∀ s m,gX (wr.alloc o) te size s (mk m)→gX w6 te size s (mk m):=fun s m hm=>by
  have a1:=World.ownsRow.kept hm hg.grown (dI hm h1.marks hk.ei);exact World.ownsRow.kept a1 gO (.inr (bf a1 rH hk.eb))
 have hs5:=h1.own.kept hg.grown (dI h1.own h1.marks hk.si);refine ⟨hW,(hO.block bm (Ne.symm h.kb)).trans hb5,hs5.kept gO (.inr (bf hs5 rH hk.sb)),?_,fun i s m hi=>he s m (h1.all i s m hi),h.ahead,he t n h1.tm,(h1.fr.grown hg.grown h.sM).grown gO (fun k e=>.inl (by injection e with e;rw [← e];exact h.kA)),h.kA,h.kb,h.sS,origin h.sM hg h1.fr.size,h.sT,h.off,h.tb,h.bnd,h.nb⟩;rw [List.length_append,List.map_append];exact (World.ownsRow.kept ho gO (.inr (bf ho rH (by decide))))
theorem fO.longer {w5:World} {t':Sl} {o:Obj} (hk:Af te ts) (hc:(mk n).length=size) (hsz:0<size) (h:fO te ts size mk KC w wr A K bm n S M t ES EM Z) (hl:t'.len=t.len+1) (ho:w5.ownsRow 0 te size t'.val (t.len+1) ((List.replicate t.len (mk n)).flatten++mk n)) (hg:fC (wr.alloc o) t.val w5 t'.val) (hold:w5.ownsRow 0 te size t.val t.len (List.replicate t.len (mk n)).flatten):fO te ts size mk KC w w5 A K bm n S M t' ES EM Z:=by
 have h1:=h.later (aj wr o);have hnew:gX w5 te size t' (mk n):=by
  unfold gX;rw [hl,List.replicate_succ',List.flatten_append];simpa using ho
 refine ⟨hg.blk h1.blk (Ne.symm (bf h1.tm h1.blk hk.eb)),hg.blk h1.mark (Ne.symm h.tb),h1.own.kept hg.grown (dI h1.own h1.tm (Ne.symm hk.es)),h1.marks.kept hg.grown (dI h1.marks h1.tm (Ne.symm hk.ei)),?_,?_,hnew,h1.fr.grown hg.grown h.sT,h.kA,h.kb,h.sS,h.sM,origin h.sT hg h1.fr.size,h.off,?_,h.bnd,h.nb⟩
 ·intro i s m hi
  rcases h.ahead i s m hi with h2 | h2 | ⟨h2,h3,h4,rfl⟩
  ·exact World.ownsRow.kept (h1.all i s m hi) hg.grown (.inl h2)
  ·exact World.ownsRow.kept (h1.all i s m hi) hg.grown (.inr h2)
  ·exact NV (t:=t) hold hc h2 h3 h4
 ·intro i s m hi
  cases hb:s.val.ownBlock with
  | none=>exact .inl rfl
  | some c =>
   refine .inr ?_;have hlt:=(World.ownsRow.lt (h1.all i s m hi) c hb).2;rcases hg.own with ho2 | ho2
   ·rcases h.ahead i s m hi with h2 | h2 | ⟨h2,h3,h4,rfl⟩
    ·rw [hb] at h2;cases h2
    ·left;rw [ho2,← hb];exact h2
    ·right
     have hb2:t.val.ownBlock=some c:=by
      rw [← hb];unfold Sl.val;rw [h2];cases t.a <;> rfl
     have hb3:=ho2.trans hb2;rcases hold.2 with ⟨e1,_⟩ | ⟨g,cap,cur,e1,_,e3,_,_,e6,_⟩
     ·rw [e1] at hb2;cases hb2
     rcases ho.2 with ⟨DW,_⟩ | ⟨g',cap',cur',DW,_,e3',_,_,e6',_⟩
     ·rw [DW] at hb3;cases hb3
     have hgc:g=c:=by rw [e1] at hb2;simpa [Value.ownBlock] using hb2
     have Z5:g'=c:=by rw [DW] at hb3;simpa [Value.ownBlock] using hb3
     subst hgc;subst Z5;rw [e3] at e3';injection e3' with e3';injection e3' with e3';subst e3';have hcap:cap=cap':=Nat.eq_of_mul_eq_mul_right hsz (e6.symm.trans e6');simp only [Sl.val,Value.slice.injEq] at e1 DW;exact ⟨by rw [h2,e1.1,DW.1],by rw [h3,e1.2.2,DW.2.2,hcap],by omega,rfl⟩
   ·left
    intro e;have:=ho2 c e.symm;omega
 ·rcases hg.own with ho2 | ho2
  ·rw [ho2];exact h.tb
  ·intro e
   have:=ho2 bm e;have:=(df h1.mark);omega
end
end
end Go.Proofs.YtignemioillaiaaGreat
