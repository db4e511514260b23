/- shard.set and shard.remove. -/
import Derived.Test.YtignemioillaiaaGreatG04
import Derived.Deep.RegionWith
namespace Go.Proofs.YtignemioillaiaaGreat
set_option maxHeartbeats 8000000
set_option maxRecDepth 100000
section
open Go.RowKit Go.Lib
theorem O3 {α:Type} {f:α→List Value} {k:Nat} (hf:∀ y,(f y).length=k) (l:List α) (i:Nat) (x:α) :
 ((CV l i x).map f).flatten=((l.map f).flatten).take (i*k)++(f x++((l.map f).flatten).drop (i*k)):=by
 rw [AP hf,AU hf];simp [CV]
theorem VP {α:Type} {f:α→List Value} {k:Nat} (hf:∀ y,(f y).length=k) (l:List α) (i:Nat) :
 ((l.eraseIdx i).map f).flatten=((l.map f).flatten).take (i*k)++((l.map f).flatten).drop (i*k+k):=by
 rw [AP hf,show i*k+k=(i+1)*k from (Nat.succ_mul i k).symm,AU hf,List.eraseIdx_eq_take_drop_succ];simp
theorem DD {α:Type} {f:α→List Value} {k:Nat} (hf:∀ y,(f y).length=k) (l:List α) (i:Nat) (x:α) (hi:i<l.length) :
 ((l.set i x).map f).flatten=splice (l.map f).flatten (i*k) (f x):=by
 unfold splice;rw [AP hf,hf,show i*k+k=(i+1)*k from (Nat.succ_mul i k).symm,AU hf,List.set_eq_take_append_cons_drop,if_pos hi];simp
theorem Ap {α:Type} {f:α→List Value} {k:Nat} (hf:∀ y,(f y).length=k) (l:List α):((l.map f).flatten).length=l.length*k:=by
 induction l with
 | nil=>simp
 | cons a r ih=>simp only [List.map_cons,List.flatten_cons,List.length_append,ih,hf,List.length_cons,Nat.succ_mul];omega
theorem z8 {α:Type} (cur xs cs:List α) (m o:Nat) (htk:cur.take m=xs) (hm:m≤cur.length) (ho:o+cs.length≤m):(splice cur o cs).take m=splice xs o cs:=by
 obtain ⟨A,B,C,dW,hA,hB,hT,hC⟩:=acy cur o m (by omega) hm;have hx:xs=A++B:=by rw [← htk,hT]
 unfold splice;have e1:cur.take o=A:=by rw [dW,← hA,List.take_left]
 have e2:xs.take o=A:=by rw [hx,← hA,List.take_left]
 have e3:cur.drop (o+cs.length)=B.drop cs.length++C:=by
  rw [dW,← hA,List.drop_length_add_append,List.drop_append_of_le_length (by omega)]
 have e4:xs.drop (o+cs.length)=B.drop cs.length:=by rw [hx,← hA,List.drop_length_add_append]
 rw [e1,e2,e3,e4];have hl:(A++(cs++B.drop cs.length)).length=m:=by simp [hA,hB];omega
 rw [show A++(cs++(B.drop cs.length++C))=(A++(cs++B.drop cs.length))++C by simp,← hl,List.take_left]
theorem Hw:∀ y:Row,(Row.cells y).length=2:=fun _=>rfl
theorem MU:∀ y:ak,(ak.cells y).length=7:=fun _=>rfl
theorem Cg (rows:List Row):∀ u∈(rows.map Row.cells).flatten,u.oneCell'=true:=by
 intro u hu;obtain ⟨l,hl,hu⟩:=List.mem_flatten.1 hu;obtain ⟨r,_,rfl⟩:=List.mem_map.1 hl;simp [Row.cells] at hu;rcases hu with rfl | rfl <;> rfl
theorem FD (ahr:List ak):∀ u∈(ahr.map ak.cells).flatten,u.oneCell'=true:=by
 intro u hu;obtain ⟨l,hl,hu⟩:=List.mem_flatten.1 hu;obtain ⟨r,_,rfl⟩:=List.mem_map.1 hl;simp [ak.cells] at hu;rcases hu with rfl | rfl | rfl | rfl | rfl | rfl | rfl <;> rfl
theorem dR {w:World} {base:Nat} {e:TypeId} {size:Nat} {v:Value} {n:Nat} {xs:List Value} (h:w.ownsRow base e size v n xs):v.oneCell'=true:=by
 rcases h.2 with ⟨rfl,_⟩ | ⟨g,cap,cur,rfl,_⟩ <;> rfl
theorem Dp {w:World} {base b:Nat} {e:TypeId} {k m:Nat} {v:Value} {xs cs:List Value} (h0:w.heap[b]? = some (.cells cs.toArray 31)) (hne:e≠31) (hown:w.ownsRow base e k v m xs):v.ownBlock≠some b:=by
 rcases hown.2 with ⟨rfl,_⟩ | ⟨q,cap,cur,rfl,_,hq,_⟩
 ·simp [Value.ownBlock]
 ·intro e2
  simp [Value.ownBlock] at e2;subst e2;rw [h0] at hq;simp at hq;exact hne hq.2.symm
theorem rJ {w:World} {b1 b2:Nat} {e1 e2:TypeId} {s1 s2:Nat} {v1 v2:Value} {n1 n2:Nat} {x1 x2:List Value} (h1:w.ownsRow b1 e1 s1 v1 n1 x1) (h2:w.ownsRow b2 e2 s2 v2 n2 x2) (hne:e1≠e2):v1.ownBlock=none∨v1.ownBlock≠v2.ownBlock:=by
 rcases h1.2 with ⟨rfl,_⟩ | ⟨g,cap,cur,rfl,_,hg,_⟩
 ·exact .inl rfl
 ·right
  rcases h2.2 with ⟨rfl,_⟩ | ⟨g',cap',cur',rfl,_,hg',_⟩
  ·intro e;cases e
  ·intro e
   simp only [Value.ownBlock,Option.some.injEq] at e;subst e;rw [hg] at hg';injection hg' with hg';injection hg' with _ h9 _;exact hne h9
theorem ae {p:Prop} (h:p):Hid p:=h
def yl (w:World) (v v':Value):Prop:=v'.ownBlock=v.ownBlock∨∀ k,v'.ownBlock=some k→w.heap.size≤k
theorem fC.fresh {w a b:World} {v v':Value} (h:fC a v b v') (hs:w.heap.size≤a.heap.size):yl w v v':=h.own.imp id fun hk k e=>Nat.le_trans hs (hk k e)
def acG (base lim:Nat) (X:Nat→Prop) (b:Nat) (g n:Int) (vT vM vD vO vI:Value) (T:List Row) (D:List ak) (w w':World):Prop:=∃ dN,mq w' base b g n dN vM vD vO vI T D∧Mod base lim X w w'∧yl w vT dN
def sJ (T:List Row) (key:Int):Int:=if o7 T key then 2 else if 8≤T.length then 5 else 2
def zl (T:List Row) (key v:Int):List Row:=if o7 T key then T.set (wE T key) ⟨key,v⟩ else if 8≤T.length then T else CV T (wE T key) ⟨key,v⟩
def Ag (T:List Row) (key:Int):List Row:=if o7 T key then T.eraseIdx (wE T key) else T
theorem mq.WT {w w':World} {base b:Nat} {g n:Int} {vT vM vD vO vI:Value} {T':List Row} {D:List ak} {dN:Value}
 (hD:w.ownsRow base 57 7 vD D.length (D.map ak.cells).flatten) (hT:w.ownsRow base 128 2 dN T'.length (T'.map Row.cells).flatten)
 (h0:w.heap[b]? = some (.cells (rW g n vT vM vD vO vI).toArray 31))
 (hb:w'.heap[b]? = some (.cells (rW g n dN vM vD vO vI).toArray 31)) (ho:Only b w w') (b1:base≤b):mq w' base b g n dN vM vD vO vI T' D:=by
 have off:∀ {e:TypeId} {k m:Nat} {v:Value} {xs:List Value},e≠31→w.ownsRow base e k v m xs→w'.ownsRow base e k v m xs:=by
  intro e k m v xs hne hown;refine hown.kept (qB ho) ?_;rcases hown.2 with ⟨rfl,_⟩ | ⟨q,cap,cur,rfl,_,hq,_⟩
  ·exact .inl rfl
  ·right
   intro e2;simp [Value.ownBlock] at e2;subst e2;rw [h0] at hq;cases hq
   exact hne rfl
 exact ⟨hb,off (by decide) hT,off (by decide) hD,b1⟩
theorem abx (w:World) (base lim:Nat) (X:Nat→Prop) (b:Nat) (g n:Int) (vT vM vD vO vI:Value) (T:List Row) (D:List ak) (key v:Int) (h:mq w base b g n vT vM vD vO vI T D) (hs:jZ T) (hb:base≤w.heap.size) (hbl:b<lim∧X b) (gY:∀ k,vT.ownBlock=some k→k<lim∧X k) (hn:T.length<1000000) :
 Calls Tryz.prog 140 #[.pointer (some ⟨b,0,none⟩),.int .u64 key,.int .u64 v] w fun e w'=>e=.returned (.int .u8 (sJ T key))∧acG base lim X b g n vT vM vD vO vI (zl T key v) D w w':=by
 obtain ⟨p,hp⟩:∃ p,p=wE T key:=⟨_,rfl⟩;have HP:Hid (wE T key=p):=hp.symm;have HS:Hid (jZ T):=hs;have HH:Hid (mq w base b g n vT vM vD vO vI T D):=h;have HB:Hid (∀ w1,Below w.heap.size w w1→w1.heap[b]? = some (.cells (rW g n vT vM vD vO vI).toArray 31)):=fun w1 hb1=>af hb1 h.cell
 have hpl:p≤T.length:=by rw [hp];exact Oj _ _
 clear hp;cases hh:o7 T key with
 | true =>
  obtain ⟨x,hx,hxe⟩:=wC hh;rw [sj] at hxe;change T[wE T key]? = some x at hx;rw [HP.out] at hx;have hxl:=(mV hx);rcases h.oT.2 with ⟨_,h0⟩ | ⟨gT,cap,cur,hv2,hbg,hgT,hnc,hcm,hcs,htake⟩
  ·omega
  subst hv2;have hi1:(0:Int)≤(p:Int):=by omega
  have hi2:(p:Int)<(T.length:Int):=by omega
  have HG:Hid (∀ w1,Below w.heap.size w w1→w1.heap[gT]? = some (.cells cur.toList.toArray 128)):=fun w1 hb1=>by rw [Array.toArray_toList];exact af hb1 hgT
  have hcl:p*2+1+1≤cur.toList.length:=by rw [Array.length_toList,hcs];omega
  have alE:cur.toList.length=cap*2:=by rw [Array.length_toList];exact hcs
  have yR:T.length*2≤cur.toList.length:=by omega
  have HF:Hid (Nat.ble (p*2+1+1) cur.toList.length=true):=by show _=_;rw [Nat.ble_eq];exact hcl
  obtain ⟨ys,hys⟩:∃ ys,ys=cur.toList.take (p*2+1)++[Value.int .u64 v]++cur.toList.drop (p*2+1+1):=⟨_,rfl⟩;have HY:Hid (cur.toList.take (p*2+1)++[Value.int .u64 v]++cur.toList.drop (p*2+1+1)=ys):=hys.symm;have hc2:=fun w1 hb1=>ah (HB.out w1 hb1) 2
  clear h hs hgT;go_enter Tryz.func140,Tryz.ntmps140
  go_wp2_with (first
   | (go_at_call 176;go_must (refine (BD _ base b g n (.slice (some ⟨gT,0,none⟩) T.length cap) vM vD vO vI T D key HH.out HS.out).mono ?_;rintro e w1 ⟨rfl,hb1⟩;rw [hh,HP.out];have R3:=hc2 w1 hb1;clear hc2))
   | (with_reducible show wpList _ _ _ ({ dst:=_,op:=Op.store 48 _ _,type:=_,pos:=_,after:=_,guard:=none }::_) _ _;go_must (refine cZ rfl _ _ _ rfl rfl gT (p*2+1) rfl (.int .u64 v) rfl (by kernel_rfl) rfl _ _ (HG.out w1 hb1) HF.out ys HY.out ?_;intro w2 hw2 ho2;have HW2:Hid (w2.heap[gT]? = some (.cells ys.toArray 128)):=ae hw2;have dZ:Hid (Only gT w1 w2):=ae ho2;clear hw2 ho2)))
  go_ret
  refine ⟨by rw [show sJ T key=2 by simp [sJ,hh]];rfl,.slice (some ⟨gT,0,none⟩) T.length cap,?_,(Mod.later hb1).trans (Mod.only dZ.out hbg (gY gT rfl) (HG.out w1 hb1) kdT),.inl rfl⟩;have hne:b≠gT:=by
   intro e;have h1:=HB.out w1 hb1;rw [e,HG.out w1 hb1] at h1;simp at h1
  have hD1:=(HH.out.later hb1).oD;rw [show zl T key v=T.set p ⟨key,v⟩ by simp [zl,hh,HP.out]];have hlen:(T.set p ⟨key,v⟩).length=T.length:=List.length_set;have hfx:((T.set p ⟨key,v⟩).map Row.cells).flatten=splice (T.map Row.cells).flatten (p*2+1) [Value.int .u64 v]:=by
   rw [DD Hw T p _ hxl];have hTs:T=T.take p++(x::T.drop (p+1)):=by
    have e:=List.take_append_drop p T;rw [List.drop_eq_getElem_cons hxl,(List.getElem?_eq_some_iff.1 hx).2] at e;exact e.symm
   have hXs:(T.map Row.cells).flatten=((T.take p).map Row.cells).flatten++(Value.int .u64 key::Value.int .u64 x.val::((T.drop (p+1)).map Row.cells).flatten):=by
    conv=>lhs;rw [hTs]
    simp [Row.cells,hxe]
   have hAl:(((T.take p).map Row.cells).flatten).length=p*2:=by rw [Ap Hw,List.length_take,Nat.min_eq_left (by omega)]
   rw [hXs];generalize ((T.take p).map Row.cells).flatten=A at hAl;unfold splice;rw [← hAl];simp [Row.cells,List.take_append,List.drop_append,List.take_of_length_le,List.drop_eq_nil_of_le];rw [show List.drop (A.length+1+1) A=[] from List.drop_eq_nil_of_le (by omega),show A.length+1+1 - A.length=2 by omega];rfl
  refine ⟨(dZ.out.block b hne).trans (HB.out w1 hb1),⟨by rw [Ap Hw],.inr ⟨gT,cap,ys.toArray,by rw [hlen],hbg,HW2.out,by rw [hlen];exact hnc,hcm,?_,?_⟩⟩,?_,HH.out.b1⟩
  ·rw [List.size_toArray,← HY.out,List.length_append,List.length_append,List.length_take,List.length_drop,Array.length_toList,hcs]
   rw [Array.length_toList,hcs] at hcl;simp only [List.length_cons,List.length_nil];omega
  ·rw [hlen,hfx,← z8 cur.toList _ [Value.int .u64 v] (T.length*2) (p*2+1) htake yR (by simp only [List.length_cons,List.length_nil];omega)]
   show ys.take _=_;rw [← HY.out,List.append_assoc];rfl
  ·refine hD1.kept (qB dZ.out) ?_
   have hT1:=(HH.out.later hb1).oT;exact rJ hD1 hT1 (by decide)
 | false =>
  have hc2:=fun w1 hb1=>ah (HB.out w1 hb1) 2
  obtain ⟨a,m,c,hv,hm,hin⟩:=pI h.oT (fun y=>rfl);have HM:Hid (m=T.length):=hm;by_cases h8:8≤m
  ·have hd8:decide ((8:Int)≤(m:Int))=true:=by simp;omega
   clear h hs hin hm;subst hv;go_enter Tryz.func140,Tryz.ntmps140
   go_wp2_with (go_at_call 176;go_must (refine (BD _ base b g n (.slice a m c) vM vD vO vI T D key HH.out HS.out).mono ?_;rintro e w1 ⟨rfl,hb1⟩;rw [hh,HP.out];have R3:=hc2 w1 hb1;clear hc2))
   go_ret
   exact ⟨by rw [show sJ T key=5 by simp [sJ,hh,← HM.out,h8]];rfl,.slice a m c,by rw [show zl T key v=T by simp [zl,hh,← HM.out,h8]];exact HH.out.later hb1,Mod.later hb1,.inl rfl⟩
  ·have hd8:decide ((8:Int)≤(m:Int))=false:=by simp;omega
   clear h hs hin hm;have hb0:Below w.heap.size w w:=Below.refl _ _;have FE:Hid (∀ k,vT.ownBlock=some k→base≤k∧k<w.heap.size):=HH.out.oT.lt;have HV:Hid (vT=.slice a m c):=hv;subst hv;go_enter Tryz.func140,Tryz.ntmps140
   go_wp2_with (first
    | (go_at_call 176;go_must (refine (BD _ base b g n (.slice a m c) vM vD vO vI T D key HH.out HS.out).mono ?_;rintro e w1 ⟨rfl,hb1⟩;rw [hh,HP.out];have R3:=hc2 w1 hb1;clear hc2))
    | (go_at_call 177;go_must (refine (abu base (.slice a m c) T.length p (T.map Row.cells).flatten [.int .u64 key,.int .u64 v] w1.heap.size _ (ay (ay HH.out.oT hb1) (aj _ _)) (Cg T) rfl (by simp [Value.oneCell']) (heap_alloc_new w1 _) (fun e=>by have:=(FE.out _ e).2;have:=hb1.size;omega) hpl (by simp;have:=hb1.size;omega) hn).mono ?_;rintro e w2 ⟨dN,rfl,R4,hgr⟩;have R5:Hid (w2.ownsRow base 128 2 dN (T.length+1) (((T.map Row.cells).flatten).take (p*2)++([.int .u64 key,.int .u64 v]++((T.map Row.cells).flatten).drop (p*2)))):=ae R4;have GD:Hid (fC (w1.alloc (.cells #[.int .u64 key,.int .u64 v] 128)) (.slice a m c) w2 dN):=ae hgr;have h1v:=dR R4;clear R4 hgr;have HB2:Hid (w2.heap[b]? = some (.cells #[.int .u8 g,.int .u8 n,.slice a m c,vM,vD,vO,vI] 31)):=ae (GD.out.blk (af (aj _ _) (HB.out w1 hb1)) (Ne.symm (Dp (HB.out w hb0) (by decide) HH.out.oT)))))
    | (with_reducible show wpList _ _ _ ({ dst:=_,op:=Op.store 25 _ _,type:=_,pos:=_,after:=_,guard:=none }::_) _ _;go_must (refine cZ rfl _ _ _ rfl rfl b 2 rfl dN rfl (by kernel_rfl) h1v [.int .u8 g,.int .u8 n,.slice a m c,vM,vD,vO,vI] 31 HB2.out rfl (rW g n dN vM vD vO vI) rfl ?_;intro w3 hw3 ho3;have HW3:Hid (w3.heap[b]? = some (.cells (rW g n dN vM vD vO vI).toArray 31)):=ae hw3;have pE:Hid (Only b w2 w3):=ae ho3;clear hw3 ho3)))
   go_ret
   have hTe:zl T key v=CV T p ⟨key,v⟩:=by simp only [zl,hh,HP.out];rw [if_neg (by simp),if_neg (by rw [← HM.out];exact h8)]
   have hDw:w2.ownsRow base 57 7 vD D.length (D.map ak.cells).flatten:=by
    have hD1:=ay (ay HH.out.oD hb1) (aj w1 (.cells #[.int .u64 key,.int .u64 v] 128));have hT1:=ay (ay HH.out.oT hb1) (aj w1 (.cells #[.int .u64 key,.int .u64 v] 128));exact hD1.kept GD.out.grown (rJ hD1 hT1 (by decide))
   refine ⟨by rw [show sJ T key=2 by simp only [sJ,hh];rw [if_neg (by simp),if_neg (by rw [← HM.out];exact h8)]];rfl,dN,?_,(Mod.later hb1).trans ((Mod.later (aj _ _)).trans ((Mod.grew GD.out (fun k hk=>⟨(FE.out k hk).1,gY k hk⟩) (ay (ay HH.out.oT hb1) (aj w1 _)) kdT).trans (Mod.only pE.out HH.out.b1 hbl HB2.out kdS))),GD.out.fresh (Nat.le_trans hb1.size (aj w1 _).size)⟩;rw [hTe];refine mq.WT hDw ?_ HB2.out HW3.out pE.out HH.out.b1;rw [Hu,O3 Hw];exact R5.out
theorem VQ (w:World) (base lim:Nat) (X:Nat→Prop) (b:Nat) (g n:Int) (vT vM vD vO vI:Value) (T:List Row) (D:List ak) (key:Int) (h:mq w base b g n vT vM vD vO vI T D) (hs:jZ T) (hbl:b<lim∧X b) (gY:∀ k,vT.ownBlock=some k→k<lim∧X k) (hn:T.length<1000000) :
 Calls Tryz.prog 141 #[.pointer (some ⟨b,0,none⟩),.int .u64 key] w fun e w'=>e=.returned (.int .u8 2)∧acG base lim X b g n vT vM vD vO vI (Ag T key) D w w':=by
 obtain ⟨p,hp⟩:∃ p,p=wE T key:=⟨_,rfl⟩;have HP:Hid (wE T key=p):=hp.symm;have HS:Hid (jZ T):=hs;have HH:Hid (mq w base b g n vT vM vD vO vI T D):=h;have HB:Hid (∀ w1,Below w.heap.size w w1→w1.heap[b]? = some (.cells (rW g n vT vM vD vO vI).toArray 31)):=fun w1 hb1=>af hb1 h.cell
 have hpl:p≤T.length:=by rw [hp];exact Oj _ _
 clear hp;obtain ⟨a,m,c,hv,hm,hin⟩:=pI h.oT (fun y=>rfl);have hb0:Below w.heap.size w w:=Below.refl _ _;have FE:Hid (∀ k,vT.ownBlock=some k→base≤k∧k<w.heap.size):=HH.out.oT.lt;have hc2:=fun w1 hb1=>ah (HB.out w1 hb1) 2
 cases hh:o7 T key with
 | true =>
  obtain ⟨x,hx,hxe⟩:=wC hh;change T[wE T key]? = some x at hx;rw [HP.out] at hx;have hxl:=(mV hx);have hw1:wrap64 ((p:Int)+1)=(p:Int)+1:=by unfold wrap64;omega
  clear h hs hin hm hx hxe;subst hv;go_enter Tryz.func141,Tryz.ntmps141
  go_wp2_with (first
   | (go_at_call 176;go_must (refine (BD _ base b g n (.slice a m c) vM vD vO vI T D key HH.out HS.out).mono ?_;rintro e w1 ⟨rfl,hb1⟩;rw [hh,HP.out];have R3:=hc2 w1 hb1;clear hc2))
   | (go_at_call 178;go_must (refine (abv base (.slice a m c) T.length p (T.map Row.cells).flatten _ (ay HH.out.oT hb1) (Cg T) hxl hn).mono ?_;rintro e w2 ⟨dN,rfl,R4,hgr⟩;have R5:Hid (w2.ownsRow base 128 2 dN (T.length - 1) (((T.map Row.cells).flatten).take (p*2)++((T.map Row.cells).flatten).drop (p*2+2))):=ae R4;have GD:Hid (fC w1 (.slice a m c) w2 dN):=ae hgr;have h1v:=dR R4;clear R4 hgr;have HB2:Hid (w2.heap[b]? = some (.cells #[.int .u8 g,.int .u8 n,.slice a m c,vM,vD,vO,vI] 31)):=ae (GD.out.blk (HB.out w1 hb1) (Ne.symm (Dp (HB.out w hb0) (by decide) HH.out.oT)))))
   | (with_reducible show wpList _ _ _ ({ dst:=_,op:=Op.store 25 _ _,type:=_,pos:=_,after:=_,guard:=none }::_) _ _;go_must (refine cZ rfl _ _ _ rfl rfl b 2 rfl dN rfl (by kernel_rfl) h1v [.int .u8 g,.int .u8 n,.slice a m c,vM,vD,vO,vI] 31 HB2.out rfl (rW g n dN vM vD vO vI) rfl ?_;intro w3 hw3 ho3;have HW3:Hid (w3.heap[b]? = some (.cells (rW g n dN vM vD vO vI).toArray 31)):=ae hw3;have pE:Hid (Only b w2 w3):=ae ho3;clear hw3 ho3)))
  go_ret
  have hTe:Ag T key=T.eraseIdx p:=by simp [Ag,hh,HP.out]
  have hDw:w2.ownsRow base 57 7 vD D.length (D.map ak.cells).flatten:=by
   have hD1:=ay HH.out.oD hb1;have hT1:=ay HH.out.oT hb1;exact hD1.kept GD.out.grown (rJ hD1 hT1 (by decide))
  refine ⟨rfl,dN,?_,(Mod.later hb1).trans ((Mod.grew GD.out (fun k hk=>⟨(FE.out k hk).1,gY k hk⟩) (ay HH.out.oT hb1) kdT).trans (Mod.only pE.out HH.out.b1 hbl HB2.out kdS)),GD.out.fresh hb1.size⟩;rw [hTe];refine mq.WT hDw ?_ HB2.out HW3.out pE.out HH.out.b1;rw [List.length_eraseIdx_of_lt hxl,VP Hw];exact R5.out
 | false =>
  clear h hs hin hm;subst hv;go_enter Tryz.func141,Tryz.ntmps141
  go_wp2_with (go_at_call 176;go_must (refine (BD _ base b g n (.slice a m c) vM vD vO vI T D key HH.out HS.out).mono ?_;rintro e w1 ⟨rfl,hb1⟩;rw [hh,HP.out];have R3:=hc2 w1 hb1;clear hc2))
  go_ret
  exact ⟨rfl,.slice a m c,by rw [show Ag T key=T by simp [Ag,hh]];exact HH.out.later hb1,Mod.later hb1,.inl rfl⟩
theorem wV {w:World} {g o:Nat} {cur:List Value} {t:TypeId} {v:Value} (hg:w.heap[g]? = some (.cells cur.toArray t)):(w.setCell ⟨g,o,none⟩ v).heap[g]? = some (.cells (cur.set o v).toArray t)∧Only g w (w.setCell ⟨g,o,none⟩ v):=by
 rw [setCell_eq_setRow w g o cur.toArray t (0,0) v hg];have h:=setRow_heap w g cur.toArray (cur.toArray.setIfInBounds o v) t (0,0) hg;exact ⟨by simpa using h,Only.setRow w g _⟩
theorem aB {w:World} {base:Nat} {e:TypeId} {size:Nat} {v:Value} {n:Nat} {xs:List Value} (h:w.ownsRow base e size v n xs):∃ a m c,v=.slice a m c:=by
 rcases h.2 with ⟨rfl,_⟩ | ⟨g,cap,cur,rfl,_⟩ <;> exact ⟨_,_,_,rfl⟩
def nU (D:List ak) (q:ak):List ak:=if BC D q then D.set (Bn D q) q else CV D (Bn D q) q
def Jk (base lim:Nat) (X:Nat→Prop) (b:Nat) (g n:Int) (vT vM vD vO vI:Value) (T:List Row) (D:List ak) (w w':World):Prop:=∃ eY,mq w' base b g n vT vM eY vO vI T D∧Mod base lim X w w'∧yl w vD eY
theorem mq.acJ {w w':World} {base b:Nat} {g n:Int} {vT vM vD vO vI:Value} {T:List Row} {D':List ak} {eY:Value}
 (hT:w.ownsRow base 128 2 vT T.length (T.map Row.cells).flatten) (hD:w.ownsRow base 57 7 eY D'.length (D'.map ak.cells).flatten)
 (h0:w.heap[b]? = some (.cells (rW g n vT vM vD vO vI).toArray 31))
 (hb:w'.heap[b]? = some (.cells (rW g n vT vM eY vO vI).toArray 31)) (ho:Only b w w') (b1:base≤b):mq w' base b g n vT vM eY vO vI T D' :=
 ⟨hb,hT.kept (qB ho) (.inr (Dp h0 (by decide) hT)),hD.kept (qB ho) (.inr (Dp h0 (by decide) hD)),b1⟩
theorem R6 (w:World) (base lim:Nat) (X:Nat→Prop) (b:Nat) (g n:Int) (vT vM vD vO vI:Value) (T:List Row) (D:List ak) (qc qs ag qk:Int) (qf:Bool) (qv qg:Int) (h:mq w base b g n vT vM vD vO vI T D) (hs:eU D) (hb:base≤w.heap.size) (hbl:b<lim∧X b) (gU:∀ k,vD.ownBlock=some k→k<lim∧X k) (hn:D.length<1000000) (hh:BC D (ak.mk qc qs ag qk qf qv qg)=false) :
 Calls Tryz.prog 143 #[.pointer (some ⟨b,0,none⟩),.agg (rP qc qs ag qk qf qv qg).toArray] w fun e w'=>e=.returned (.tuple #[])∧Jk base lim X b g n vT vM vD vO vI T (nU D (ak.mk qc qs ag qk qf qv qg)) w w':=by
 obtain ⟨p,hp⟩:∃ p,p=Bn D (ak.mk qc qs ag qk qf qv qg):=⟨_,rfl⟩;have HP:Hid (Bn D (ak.mk qc qs ag qk qf qv qg)=p):=hp.symm;have hpl:p≤D.length:=by rw [hp];exact Oj _ _
 clear hp;obtain ⟨W,hW⟩:∃ W,W=w.alloc (.cells (rP qc qs ag qk qf qv qg).toArray 57):=⟨_,rfl⟩;have fP:W.heap[w.heap.size]? = some (.cells (rP qc qs ag qk qf qv qg).toArray 57):=by rw [hW];exact heap_alloc_new w _
 have bE:Below w.heap.size w W:=by rw [hW];exact aj w _
 have HS:Hid (eU D):=hs;have HH:Hid (mq W base b g n vT vM vD vO vI T D):=h.later bE;have FE:Hid (∀ k,vD.ownBlock=some k→base≤k∧k<w.heap.size):=h.oD.lt;obtain ⟨a,m,c,hv,hm,hin⟩:=pI h.oD (fun y=>rfl);have HB:Hid (∀ w1,Below W.heap.size W w1→w1.heap[b]? = some (.cells (rW g n vT vM vD vO vI).toArray 31)):=fun w1 hb1=>af hb1 HH.out.cell
 have HQ:Hid (∀ w1,Below W.heap.size W w1→w1.heap[w.heap.size]? = some (.cells (rP qc qs ag qk qf qv qg).toArray 57)):=fun w1 hb1=>af hb1 fP
 have UW:Hid (w.heap.size≤W.heap.size):=bE.size;have hcq:=ah fP;clear h hs hin hm;subst hv;go_enter Tryz.func143,Tryz.ntmps143
 go_wp2_with (first
  | (go_at_call 84;go_must (rw [← hW];clear hW;refine (Dn _ base b g n vT vM (.slice a m c) vO vI T D qc qs ag qk qf qv qg HH.out HS.out).mono ?_;rintro e w1 ⟨rfl,hb1⟩;rw [hh,HP.out];have KT:=ah (HB.out w1 hb1) 4;have Y6:=ah (HQ.out w1 hb1) 0;have Y7:=ah (HQ.out w1 hb1) 1;have Y8:=ah (HQ.out w1 hb1) 2;have Y9:=ah (HQ.out w1 hb1) 3;have Za:=ah (HQ.out w1 hb1) 4;have Zb:=ah (HQ.out w1 hb1) 5;have Zc:=ah (HQ.out w1 hb1) 6;have j4:=(df (HB.out w1 hb1));have hqB:=(df (HQ.out w1 hb1)))))
 simp at KT Y6 Y7 Y8 Y9 Za Zb Zc;have dQ:Hid (Below w.heap.size w W):=bE;clear hcq fP bE;have HB1:Hid (w1.heap[b]? = some (.cells #[.int .u8 g,.int .u8 n,vT,vM,.slice a m c,vO,vI] 31)):=HB.out w1 hb1;have HD1:Hid (w1.ownsRow base 57 7 (.slice a m c) D.length (D.map ak.cells).flatten):=ay HH.out.oD hb1;have HT1:Hid (w1.ownsRow base 128 2 vT T.length (T.map Row.cells).flatten):=ay HH.out.oT hb1;have MV:Hid ((Value.slice a m c).ownBlock≠some b):=Dp HB1.out (by decide) HD1.out;have hbs:base≤w1.heap.size:=Nat.le_trans hb (Nat.le_trans UW.out hb1.size);have UX:Hid ((Value.slice a m c).ownBlock≠some w1.heap.size):=fun e=>by have:=(FE.out _ e).2;omega
 go_region_with (go_at_call 181;refine (abt base (.slice a m c) D.length p (D.map ak.cells).flatten (rP qc qs ag qk qf qv qg) w1.heap.size (w1.drew.alloc (.cells (rP qc qs ag qk qf qv qg).toArray 57)) (ay HD1.out ((Below.refl _ w1).drew.alloc (Nat.le_refl _) _)) (FD D) rfl (by simp [Value.oneCell']) (heap_alloc_new w1.drew _) UX.out hpl (by simp;omega) hn).mono ?_;rintro e w2 ⟨eY,rfl,hoD,hgr⟩;obtain ⟨da,dm,dc,rfl⟩:=aB hoD;have MW:Hid (w2.ownsRow base 57 7 (.slice da dm dc) (D.length+1) (((D.map ak.cells).flatten).take (p*7)++((rP qc qs ag qk qf qv qg)++((D.map ak.cells).flatten).drop (p*7)))):=ae hoD;have GD:Hid (fC (w1.drew.alloc (.cells (rP qc qs ag qk qf qv qg).toArray 57)) (.slice a m c) w2 (.slice da dm dc)):=ae hgr;have HB2:Hid (w2.heap[b]? = some (.cells #[.int .u8 g,.int .u8 n,vT,vM,.slice a m c,vO,vI] 31)):=ae (hgr.blk (af ((Below.refl _ w1).drew.alloc (Nat.le_refl _) _) HB1.out) (Ne.symm MV.out));have hc4:w2.cell? ⟨b,4,none⟩=some (.slice a m c):=ah HB2.out 4;have WU:=oh (Below.refl _ w2) HB2.out 4;clear hoD hgr)
 all_goals (
  go_end0
  obtain ⟨hs1,hs2⟩:=wV (o:=4) (v:=.slice da dm dc) HB2.out;have hTw:w2.ownsRow base 128 2 vT T.length (T.map Row.cells).flatten:=(ay HT1.out ((Below.refl _ w1).drew.alloc (Nat.le_refl _) _)).kept GD.out.grown (rJ (ay HT1.out ((Below.refl _ w1).drew.alloc (Nat.le_refl _) (.cells (rP qc qs ag qk qf qv qg).toArray 57))) (ay HD1.out ((Below.refl _ w1).drew.alloc (Nat.le_refl _) _)) (by decide));refine ⟨rfl,.slice da dm dc,?_,(Mod.later (ai dQ.out hb1)).trans ((Mod.later ((Below.refl _ w1).drew.alloc (Nat.le_refl _) _)).trans ((Mod.grew GD.out (fun k hk=>⟨(FE.out k hk).1,gU k hk⟩) (ay HD1.out ((Below.refl _ w1).drew.alloc (Nat.le_refl _) _)) kdD).trans (Mod.only hs2 HH.out.b1 hbl HB2.out kdS))),GD.out.fresh (Nat.le_trans UW.out (Nat.le_trans hb1.size ((Below.refl _ w1).drew.alloc (Nat.le_refl _) _).size))⟩;rw [show nU D (ak.mk qc qs ag qk qf qv qg)=CV D p (ak.mk qc qs ag qk qf qv qg) by simp only [nU,hh,HP.out];rw [if_neg (by simp)]];refine mq.acJ hTw ?_ HB2.out (by simpa using hs1) hs2 HH.out.b1;rw [Hu,O3 MU];exact MW.out)
theorem j5 (g:Nat) (t:TypeId):∀ (vs:List Value) (o:Nat) (cur:List Value) (w:World),w.heap[g]? = some (.cells cur.toArray t)→o+vs.length≤cur.length →
 (w.setCells g o vs).heap[g]? = some (.cells (splice cur o vs).toArray t)∧Only g w (w.setCells g o vs)
 | [],o,cur,w,hg,_=>⟨by rw [World.setCells,hg];simp [splice],⟨rfl,rfl,rfl,rfl,fun _ _=>rfl⟩⟩
 | v::r,o,cur,w,hg,hl=>by
  obtain ⟨h1,h2⟩:=wV (o:=o) (v:=v) hg;simp only [List.length_cons] at hl;obtain ⟨h3,h4⟩:=j5 g t r (o+1) (cur.set o v) _ h1 (by simp;omega);refine ⟨?_,h2.trans h4⟩;rw [World.setCells,h3];congr 3
  unfold splice;rw [List.set_eq_take_append_cons_drop,if_pos (by omega)];have hA:(cur.take o).length=o:=by simp;omega
  have e1:(cur.take o++v::cur.drop (o+1)).take (o+1)=cur.take o++[v]:=by
   rw [show cur.take o++v::cur.drop (o+1)=(cur.take o++[v])++cur.drop (o+1) by simp,show o+1=(cur.take o++[v]).length by simp;omega,List.take_left]
  have e2:(cur.take o++v::cur.drop (o+1)).drop (o+1+r.length)=cur.drop (o+(r.length+1)):=by
   rw [show cur.take o++v::cur.drop (o+1)=(cur.take o++[v])++cur.drop (o+1) by simp,show o+1+r.length=(cur.take o++[v]).length+r.length by simp;omega,List.drop_length_add_append,List.drop_drop];congr 1;omega
  rw [e1,e2];simp
theorem R7 (w:World) (base lim:Nat) (X:Nat→Prop) (b:Nat) (g n:Int) (vT vM vD vO vI:Value) (T:List Row) (D:List ak) (qc qs ag qk:Int) (qf:Bool) (qv qg:Int) (h:mq w base b g n vT vM vD vO vI T D) (hs:eU D) (_hbl:b<lim∧X b) (gU:∀ k,vD.ownBlock=some k→k<lim∧X k) (hh:BC D (ak.mk qc qs ag qk qf qv qg)=true) :
 Calls Tryz.prog 143 #[.pointer (some ⟨b,0,none⟩),.agg (rP qc qs ag qk qf qv qg).toArray] w fun e w'=>e=.returned (.tuple #[])∧Jk base lim X b g n vT vM vD vO vI T (nU D (ak.mk qc qs ag qk qf qv qg)) w w':=by
 obtain ⟨p,hp⟩:∃ p,p=Bn D (ak.mk qc qs ag qk qf qv qg):=⟨_,rfl⟩;have HP:Hid (Bn D (ak.mk qc qs ag qk qf qv qg)=p):=hp.symm;obtain ⟨x,hx,hxe⟩:=wC hh;change D[Bn D (ak.mk qc qs ag qk qf qv qg)]? = some x at hx;rw [HP.out] at hx;have hxl:=(mV hx);clear hp hx hxe;obtain ⟨W,hW⟩:∃ W,W=w.alloc (.cells (rP qc qs ag qk qf qv qg).toArray 57):=⟨_,rfl⟩;have fP:W.heap[w.heap.size]? = some (.cells (rP qc qs ag qk qf qv qg).toArray 57):=by rw [hW];exact heap_alloc_new w _
 have bE:Below w.heap.size w W:=by rw [hW];exact aj w _
 have dQ:Hid (Below w.heap.size w W):=bE;have HS:Hid (eU D):=hs;have HH:Hid (mq W base b g n vT vM vD vO vI T D):=h.later bE;rcases h.oD.2 with ⟨_,h0⟩ | ⟨gD,cap,cur,hv,hbg,hgD,hnc,hcm,hcs,htake⟩
 ·omega
 subst hv;have HB:Hid (∀ w1,Below W.heap.size W w1→w1.heap[b]? = some (.cells #[.int .u8 g,.int .u8 n,vT,vM,.slice (some ⟨gD,0,none⟩) D.length cap,vO,vI] 31)):=fun w1 hb1=>af hb1 HH.out.cell
 have HQ:Hid (∀ w1,Below W.heap.size W w1→w1.heap[w.heap.size]? = some (.cells (rP qc qs ag qk qf qv qg).toArray 57)):=fun w1 hb1=>af hb1 fP
 have HG:Hid (∀ w1,Below W.heap.size W w1→w1.heap[gD]? = some (.cells cur.toList.toArray 57)):=fun w1 hb1=>by rw [Array.toArray_toList];exact af hb1 (af bE hgD)
 have hcl:cur.toList.length=cap*7:=by rw [Array.length_toList];exact hcs
 have hfit:p*7+7≤cur.toList.length:=by omega
 have HC:Hid (∀ w1,Below W.heap.size W w1→∀ j,j<7→∃ u,w1.cell? ⟨gD,p*7+j,none⟩=some u):=fun w1 hb1 j hj=>by
  rw [ah (HG.out w1 hb1)];exact ⟨_,List.getElem?_toArray ▸ List.getElem?_eq_getElem (by omega)⟩
 have hi1:(0:Int)≤(p:Int):=by omega
 have hi2:(p:Int)<(D.length:Int):=by omega
 clear h hs hgD fP bE;go_enter Tryz.func143,Tryz.ntmps143
 go_wp2_with (first
  | (go_at_call 84;go_must (rw [← hW];clear hW;refine (Dn _ base b g n vT vM (.slice (some ⟨gD,0,none⟩) D.length cap) vO vI T D qc qs ag qk qf qv qg HH.out HS.out).mono ?_;rintro e w1 ⟨rfl,hb1⟩;rw [hh,HP.out];have KT:=ah (HB.out w1 hb1) 4;have Y6:=ah (HQ.out w1 hb1) 0;have Y7:=ah (HQ.out w1 hb1) 1;have Y8:=ah (HQ.out w1 hb1) 2;have Y9:=ah (HQ.out w1 hb1) 3;have Za:=ah (HQ.out w1 hb1) 4;have Zb:=ah (HQ.out w1 hb1) 5;have Zc:=ah (HQ.out w1 hb1) 6)))
 simp at KT Y6 Y7 Y8 Y9 Za Zb Zc;obtain ⟨u0,hu0⟩:=HC.out w1 hb1 0 (by decide);obtain ⟨u1,hu1⟩:=HC.out w1 hb1 1 (by decide);obtain ⟨u2,hu2⟩:=HC.out w1 hb1 2 (by decide);obtain ⟨u3,hu3⟩:=HC.out w1 hb1 3 (by decide);obtain ⟨u4,hu4⟩:=HC.out w1 hb1 4 (by decide);obtain ⟨u5,hu5⟩:=HC.out w1 hb1 5 (by decide);obtain ⟨u6,hu6⟩:=HC.out w1 hb1 6 (by decide);rw [Nat.add_zero] at hu0;have hf0:=oh (Below.refl _ w1) (HG.out w1 hb1);go_region
 all_goals (
  go_wp2
  (try simp only [Exit.inBlock,Exit.then])
  refine bodyPost_ret (results_none rfl _ _ _) rfl ?_;obtain ⟨hs1,hs2⟩:=j5 gD 57 (rP qc qs ag qk qf qv qg) (p*7) cur.toList w1 (HG.out w1 hb1) hfit;simp only [World.setCells,Nat.add_assoc,Nat.reduceAdd] at hs1 hs2;obtain ⟨X,hX⟩:∃ X,X=splice cur.toList (p*7) (rP qc qs ag qk qf qv qg):=⟨_,rfl⟩;rw [← hX] at hs1;refine ⟨rfl,?_⟩;generalize (((((((w1.setCell ⟨gD,p*7,none⟩ (.int .u8 qc)).setCell ⟨gD,p*7+1,none⟩ (.int .u32 qs)).setCell ⟨gD,p*7+2,none⟩ (.int .u64 ag)).setCell ⟨gD,p*7+3,none⟩ (.int .u8 qk)).setCell ⟨gD,p*7+4,none⟩ (.bool qf)).setCell ⟨gD,p*7+5,none⟩ (.int .u64 qv)).setCell ⟨gD,p*7+6,none⟩ (.int .u8 qg))=w2 at hs1 hs2 ⊢;have hs3:Only gD w1 w2.drew:=hs2.trans (Only.drew _ _);refine ⟨.slice (some ⟨gD,0,none⟩) D.length cap,?_,(Mod.later (ai dQ.out hb1)).trans (Mod.only hs3 hbg (gU gD rfl) (HG.out w1 hb1) kdD),.inl rfl⟩;rw [show nU D (ak.mk qc qs ag qk qf qv qg)=D.set p (ak.mk qc qs ag qk qf qv qg) by simp [nU,hh,HP.out]];have hB1:=HB.out w1 hb1;have hD1:=ay HH.out.oD hb1;have hT1:=ay HH.out.oT hb1;have hbD:b≠gD:=fun e=>Dp hB1 (by decide) hD1 (by rw [e];rfl)
  have hlen:(D.set p (ak.mk qc qs ag qk qf qv qg)).length=D.length:=List.length_set;refine ⟨(hs2.block b hbD).trans hB1,(hT1.kept (qB hs3) (rJ hT1 hD1 (by decide))),⟨Ap MU _,.inr ⟨gD,cap,_,by rw [hlen],hbg,hs1,by rw [hlen];exact hnc,hcm,?_,?_⟩⟩,HH.out.b1⟩
  ·rw [List.size_toArray,hX,length_splice _ _ _ hfit,hcl]
  ·rw [hX,hlen,DD MU D p _ hxl]
   exact z8 cur.toList _ _ (D.length*7) (p*7) htake (by omega) (by show p*7+7≤_;omega))
theorem zz (w:World) (base lim:Nat) (X:Nat→Prop) (b:Nat) (g n:Int) (vT vM vD vO vI:Value) (T:List Row) (D:List ak) (qc qs ag qk:Int) (qf:Bool) (qv qg:Int) (h:mq w base b g n vT vM vD vO vI T D) (hs:eU D) (hb:base≤w.heap.size) (hbl:b<lim∧X b) (gU:∀ k,vD.ownBlock=some k→k<lim∧X k) (hn:D.length<1000000) :
 Calls Tryz.prog 143 #[.pointer (some ⟨b,0,none⟩),.agg (rP qc qs ag qk qf qv qg).toArray] w fun e w'=>e=.returned (.tuple #[])∧Jk base lim X b g n vT vM vD vO vI T (nU D (ak.mk qc qs ag qk qf qv qg)) w w':=by
 cases hh:BC D (ak.mk qc qs ag qk qf qv qg) with
 | true=>exact R7 w base lim X b g n vT vM vD vO vI T D qc qs ag qk qf qv qg h hs hbl gU hh
 | false=>exact R6 w base lim X b g n vT vM vD vO vI T D qc qs ag qk qf qv qg h hs hb hbl gU hn hh
end
end Go.Proofs.YtignemioillaiaaGreat
