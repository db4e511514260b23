/- Lemmas. -/
import Derived.Test.YtignemioillaiaaGreatG34
import Derived.Lib.Overlaps
namespace Go.Proofs.YtignemioillaiaaGreat
set_option maxHeartbeats 8000000
set_option maxRecDepth 100000
open List
section
open Go Go.Conc
theorem addr_add(b k:Nat):(⟨b,0,none⟩:Addr).add k=⟨b,k,none⟩:=by
 unfold Addr.add;split
 ·rename_i h;rw[h]
 ·rw[Nat.zero_add]
theorem jF{b c i k n d:Nat}(h:¬c=i):Value.slice (if c=i then some ⟨b,0,none⟩else Option.map (λx:Addr=>x.add k) (some ⟨b,0,none⟩)) n d=.slice (some ⟨b,k,none⟩) n d:=by
 rw[if_neg h,Option.map_some,addr_add]
theorem yI{α:Type}{f:α->List Value}{size:Nat}(hf:∀x,(f x).length=size):∀(l:List α) (i:Nat),(l.map f).flatten.take (i*size)=((l.take i).map f).flatten
 | [],i=>by simp
 |x::l,0=>by simp
 |x::l,i+1=>by
  rw[take_succ_cons,map_cons,map_cons,flatten_cons,flatten_cons,take_append,hf,take_of_length_le (by rw[hf,Nat.succ_mul];omega),show(i+1)*size - size=i*size by rw[Nat.succ_mul];omega,yI hf l i]
theorem tu{α:Type}{f:α->List Value}{size:Nat}(hf:∀x,(f x).length=size):∀(l:List α) (i:Nat),(l.map f).flatten.drop (i*size)=((l.drop i).map f).flatten
 | [],i=>by simp
 |x::l,0=>by simp
 |x::l,i+1=>by
  rw[drop_succ_cons,map_cons,flatten_cons,drop_append,hf,drop_eq_nil_of_le (by rw[hf,Nat.succ_mul];omega),nil_append,show(i+1)*size - size=i*size by rw[Nat.succ_mul];omega,tu hf l i]
theorem kF{α:Type}{f:α->List Value}{size:Nat}(hf:∀x,(f x).length=size):∀(l:List α),(l.map f).flatten.length=l.length*size
 | []=>by simp
 |x::l=>by rw[map_cons,flatten_cons,length_append,hf,kF hf l,length_cons,Nat.succ_mul];omega
theorem KR{α:Type}{f:α->List Value}{size:Nat}(hf:∀x,(f x).length=size)(l:List α)(i:Nat)(x:α):((kQ l i x).map f).flatten=(l.map f).flatten.take (i*size)++f x++(l.map f).flatten.drop (i*size):=by
 rw[yI hf,tu hf,kQ,map_append,map_cons,flatten_append,flatten_cons,append_assoc]
theorem iq{α:Type}(l:List α)(i:Nat)(x:α):(kQ l i x).length=l.length+1:=by
 unfold kQ;rw[length_append,length_cons,length_take,length_drop];omega
theorem Sm{cs A B X R:List Value}{k:Nat}(h:cs=A++(B++R))(hk:X.length=k)(hR:k<=R.length){cs1:List Value}(h1:cs1=cs.take (A.length+k)++B++cs.drop (A.length+k+B.length)):cs1.take A.length++X++cs1.drop (A.length+k)=A++X++B++cs.drop (A.length+k+B.length):=by
 have hl:cs.length=A.length+(B.length+R.length):=by rw[h,length_append,length_append]
 have ht:(cs.take (A.length+k)).length=A.length+k:=by rw[length_take];omega
 have e1:cs1.take A.length=A:=by
  rw[h1,append_assoc,take_append_of_le_length (by omega),take_take,Nat.min_eq_left (by omega),h,take_left'];rfl
 have e2:cs1.drop (A.length+k)=B++cs.drop (A.length+k+B.length):=by
  rw[h1,append_assoc,drop_left' ht]
 rw[e1,e2];simp
theorem aa1{cs A B X:List Value}{k:Nat}(h:cs.take A.length=A)(hk:X.length=k)(_hl:A.length+k+B.length<=cs.length){cs1:List Value}(h1:cs1=cs.take A.length++X++cs.drop (A.length+k)):cs1.take (A.length+k)++B++cs1.drop (A.length+k+B.length)=A++X++B++cs.drop (A.length+k+B.length):=by
 have e0:cs1=(A++X)++cs.drop (A.length+k):=by rw[h1,h]
 have e1:(A++X).length=A.length+k:=by rw[length_append,hk]
 rw[e0,take_left' e1,drop_append,e1,drop_eq_nil_of_le (by rw[e1];omega),nil_append,drop_drop,show A.length+k+(A.length+k+B.length - (A.length+k))=A.length+k+B.length by omega]
theorem GR{w:World}{e size n i:Nat}{g cap:Nat}{xs:List Value}(h:w.ownsRow 0 e size (.slice (Pty g) n cap) n xs)(hi:i<=n):w.ownsRow 0 e size (.slice (Pty g) i cap) i (xs.take (i*size)):=by
 rcases h.2 with⟨q,_⟩|⟨g',cap',cur,q,h0,h2,h3,h4,h5,h6⟩
 ·cases q
 injection q with q1 _ q3;injection q1 with q1;injection q1 with q1;subst q1 q3;have hm:i*size<=n*size:=Nat.mul_le_mul_right _ hi;refine⟨by rw[length_take,h.1];omega,.inr ⟨g,cap,cur,rfl,h0,h2,by omega,h4,h5,?_⟩⟩;rw[<-h6,take_take,Nat.min_eq_left hm]
theorem KS{f:FuncId}{args:Array Value}{e:Array Value->Sem Value}(hrow:∀(w:World) (es:Array Event),(callFunc f args).runT Tryz.prog w es=(do mark (.extern f);pure (Next.value (<-e args)):Sem Next).runT Tryz.prog w es)(hp:Plain [] (e args)){w:World}{v:Value}(hrun:(e args).run Tryz.prog w=.ok v w):aJ Tryz.prog (callFunc f args) w/\(callFunc f args).run Tryz.prog w=.ok (.value v) w:=by
 have hp':Plain [] (do mark (.extern f);pure (Next.value (<-e args)):Sem Next):=Plain.bind' (s:=mark (.extern f)) ⟨trivial,trivial⟩ λ_=>Plain.bind' hp λ_=>az _
 have h1:=aJ.plain (P:=Tryz.prog) hp' w;have e1:∀es,(callFunc f args).events Tryz.prog w es=(do mark (.extern f);pure (Next.value (<-e args)):Sem Next).events Tryz.prog w es:=λes=>congrArg Prod.snd (hrow w es)
 have e2:(callFunc f args).run Tryz.prog w=(do mark (.extern f);pure (Next.value (<-e args)):Sem Next).run Tryz.prog w:=(Sem.runT_fst _ _ w #[]).symm.trans ((congrArg Prod.fst (hrow w #[])).trans (Sem.runT_fst _ _ w #[]));refine⟨⟨by rw[e1];exact h1.1,by rw[e2];exact h1.2⟩,?_⟩;rw[e2];show(Sem.bind (mark (.extern f)) λ_=>Sem.bind (e args) λx=>pure (Next.value x)).run Tryz.prog w=_;have e3:(Sem.bind (e args) λx=>pure (Next.value x)).run Tryz.prog w=.ok (.value v) w:=by
  show((e args) >>= λx=>pure (Next.value x)).run Tryz.prog w=_;rw[Sem.run_bind,hrun];rfl
 exact e3
theorem aa2{w:World}{vb g off lb cb:Nat}{nw:Array Value}{cur:Array Value}(hvb:w.heap[vb]? = some (.cells nw 128))(hnl:nw.size=2)(hg:w.heap[g]? = some (.cells cur 128))(hcs:2<=cur.size)(hne:vb≠g):aJ Tryz.prog (callFunc 206 #[.slice (Pty vb) 1 1,.slice (some ⟨g,off,none⟩) lb cb]) w/\(callFunc 206 #[.slice (Pty vb) 1 1,.slice (some ⟨g,off,none⟩) lb cb]).run Tryz.prog w=.ok (.value (.bool false)) w:=by
 obtain⟨y,hy⟩:∃y,fD.T.get 128=some y:=⟨_,rfl⟩;obtain⟨i2,d2,t2⟩:=fD.tab.ok.is hy;have hsz:i2.size=2:=t2.size.trans (by kernel_rfl);have hu:Tryz.prog.underlying 25=some (.slice 128):=by kernel_rfl
 refine KS (λw es=>JF (fn:=Tryz.f206) (by kernel_rfl) (by kernel_rfl) (by kernel_rfl) (by kernel_rfl) (e:=Extern.SlicesOverlaps.overlaps #[25,25] #[4]) (by kernel_rfl) _ w es) (CX _ _ _) ?_;exact Lib.run_overlaps_apart w 25 4 128 hu 2 (λw=>by simp[sizeOf,typeInfo,t2.info,hsz]) ⟨vb,0,none⟩ ⟨g,off,none⟩ 1 1 lb cb hne 128 128 2 cur.size (by simp[World.shape?,hvb,hnl]) (by simp[World.shape?,hg]) (by omega) (by simp[World.frozen?,hvb]) (by simp[World.frozen?,hvb])
theorem aa3{w:World}{vb g off lb cb:Nat}{nw:Array Value}{cur:Array Value}(hvb:w.heap[vb]? = some (.cells nw 57))(hnl:nw.size=7)(hg:w.heap[g]? = some (.cells cur 57))(hcs:7<=cur.size)(hne:vb≠g):aJ Tryz.prog (callFunc 208 #[.slice (Pty vb) 1 1,.slice (some ⟨g,off,none⟩) lb cb]) w/\(callFunc 208 #[.slice (Pty vb) 1 1,.slice (some ⟨g,off,none⟩) lb cb]).run Tryz.prog w=.ok (.value (.bool false)) w:=by
 obtain⟨y,hy⟩:∃y,fD.T.get 57=some y:=⟨_,rfl⟩;obtain⟨i2,d2,t2⟩:=fD.tab.ok.is hy;have hsz:i2.size=7:=t2.size.trans (by kernel_rfl);have hu:Tryz.prog.underlying 27=some (.slice 57):=by kernel_rfl
 refine KS (λw es=>JF (fn:=Tryz.f208) (by kernel_rfl) (by kernel_rfl) (by kernel_rfl) (by kernel_rfl) (e:=Extern.SlicesOverlaps.overlaps #[27,27] #[4]) (by kernel_rfl) _ w es) (CX _ _ _) ?_;exact Lib.run_overlaps_apart w 27 4 57 hu 7 (λw=>by simp[sizeOf,typeInfo,t2.info,hsz]) ⟨vb,0,none⟩ ⟨g,off,none⟩ 1 1 lb cb hne 57 57 7 cur.size (by simp[World.shape?,hvb,hnl]) (by simp[World.shape?,hg]) (by omega) (by simp[World.frozen?,hvb]) (by simp[World.frozen?,hvb])
theorem Yx{w0 w:World}{v:Value}{l:List Row}(h:LN 128 2 w0 w v l.length (l.map Row.cells).flatten)(hl:l.length<=100000){i:Nat}(hi:i<=l.length){x:Row}{vb:Nat}(hvb:w.heap[vb]? = some (.cells x.cells.toArray 128))(hne:v.ownBlock≠some vb):ag Tryz.prog 177 #[v,.int .i64 i,.slice (Pty vb) 1 1] w (λv' w'=>LN 128 2 w0 w' v' (kQ l i x).length ((kQ l i x).map Row.cells).flatten/\GB v.ownBlock w w'/\∀g,v'.ownBlock=some g->v.ownBlock=some g\/w.heap.size<=g):=by
 have hcap:∃a c,v=.slice a l.length c/\l.length<=c:=by
  rcases h.own.2 with⟨q,h0⟩|⟨g,cap,cur,q,_,_,h3,_⟩
  ·exact⟨none,0,by rw[q,h0],by omega⟩
  ·exact⟨_,_,q,h3⟩
 obtain⟨va,vc,rfl,hvc⟩:=hcap;have hsz:=kF (f:=Row.cells) (size:=2) (λ_=>rfl) l;refine ah Tryz.func177 rfl rfl ?_;refine⟨⟨by omega,by omega,by omega⟩,?_⟩;refine aj (λd=>?_) (λd=>?_)
 ·have d1:i=l.length:=by have:=eq_of_beq d;omega
  subst d1;refine⟨_,x.cells,h.own,⟨_,_,hvb,rfl,rfl,rfl⟩,by omega,λv' w2 ho g n=>?_⟩;have hin:kQ l l.length x=l++[x]:=by unfold kQ;rw[take_length,drop_length]
  refine⟨?_,g,n⟩;rw[hin,length_append,map_append,flatten_append];simpa using h.app ho g n
 have d1:i<l.length:=by
  have:¬(i:Int)=l.length:=by simpa using d
  omega
 obtain⟨g,cap,cur,ev,aR,htk,hsz2,hcap⟩:=jD h.own (by omega);injection ev with ea _ ec;subst ea ec;have hown:=h.own;rcases h.own.2 with⟨q,_⟩|⟨g',cap',cur',q,h0,h2,h3,h4,h5,h6⟩
 ·cases q
 injection q with q1 _ q3;injection q1 with q1;injection q1 with q1;subst q1 q3;rw[aR]at h2;injection h2 with h2;injection h2 with h2 _;subst h2;have hgn:g≠vb:=λe=>hne (by rw[e];rfl)
 have hlt:=ae aR;have hnew:=h.new g rfl;obtain⟨A,hA⟩:∃A,A=(l.map Row.cells).flatten.take (i*2):=⟨_,rfl⟩;obtain⟨B,hB⟩:∃B,B=(l.map Row.cells).flatten.drop (i*2):=⟨_,rfl⟩;have og:A.length=i*2:=by rw[hA,length_take];omega
 have hBl:B.length=(l.length - i)*2:=by rw[hB,length_drop,hsz];omega
 have hAB:(l.map Row.cells).flatten=A++B:=by rw[hA,hB,take_append_drop]
 have hres:((kQ l i x).map Row.cells).flatten=A++x.cells++B:=by rw[KR (f:=Row.cells) (size:=2) (λ_=>rfl),hA,hB]
 have hxl:x.cells.length=2:=rfl;have Sn:B.all one=true:=by rw[hB,tu (f:=Row.cells) (size:=2) (λ_=>rfl)];exact jw (λ_=>rfl) _
 have FH:aK cur.toList (i*2) ((l.length - i)*2)=B:=by
  rw[hB,<-htk];unfold aK;rw[drop_take,show l.length*2 - i*2=(l.length - i)*2 by omega]
 refine⟨by omega,aj (λe=>?_) (λe=>?_)⟩
 ·have e1:vc=l.length:=by have:=Ptq e;omega
  refine⟨by omega,by omega,by omega,_,GR hown (Nat.le_of_lt d1),by omega,by omega,by omega,λb2 cap2 gY w2 m2 hs2 ht2 hc2 hm2 g2 l2=>?_⟩;replace hs2:gY.size=cap2*2:=hs2;replace ht2:gY.toList.take A.length=A:=by
   rw[og,hA];exact ht2
  have acA:((i:Int)).toNat+((l.length:Int)+1 - i).toNat=l.length+1:=by omega
  have hcc:l.length+1<=cap2:=by omega
  have hcap2:¬cap2=i:=by omega
  have hnb:b2≠g:=by omega
  have Vg:=g2.get hvb nofun;have hg2:=g2.get aR nofun;have hbv:b2≠vb:=by have:=ae hvb;omega
  refine⟨⟨by omega,by omega,by omega⟩,?_⟩;rw[jF (show ¬cap2=((i:Int)).toNat from hcap2)];have hmin:∀k,1<=k->Nat.min 1 k=1:=λk hk=>Nat.min_eq_left hk
  refine⟨_,_,x.cells,m2,⟨_,_,Vg,by rw[hmin _ (by omega)];rfl,by rw[hmin _ (by omega)];rfl,rfl⟩,by show i*2+2<=_;omega,λw3 m3 g3=>?_⟩;replace m3:w3.heap[b2]? = some (.cells (gY.toList.take A.length++x.cells++gY.toList.drop (A.length+2)).toArray 128):=by rw[og];exact m3
  have hg3:=g3.get hg2 λz=>hnb (Option.some.inj z).symm
  refine⟨by kernel_rfl,by omega,⟨by omega,by omega,by omega⟩,⟨by omega,by omega,by omega⟩,?_⟩;rw[jF (show ¬cap2=((i:Int)+((1:Nat):Int)).toNat by omega),jF (show ¬vc=((i:Int)).toNat by omega)];have rM:Nat.min (l.length - ((i:Int)).toNat) (((i:Int)).toNat+((l.length:Int)+((1:Nat):Int) - i).toNat - ((i:Int)+((1:Nat):Int)).toNat)=l.length - i:=by
   rw[show((i:Int)).toNat+((l.length:Int)+((1:Nat):Int) - i).toNat - ((i:Int)+((1:Nat):Int)).toNat=l.length - i by omega,Int.toNat_natCast];exact Nat.min_self _
  refine⟨_,_,B,m3,⟨_,_,hg3,?_,?_,Sn⟩,?_,λw4 m4 g4=>?_⟩
  ·rw[rM];exact FH
  ·rw[rM];exact hBl
  ·show((i:Int)+((1:Nat):Int)).toNat*2+B.length<=_
   simp only[size_toArray,length_append,length_take,length_drop,Array.length_toList,hBl,hxl,og];omega
  have e2:((i:Int)+((1:Nat):Int)).toNat*2=A.length+2:=by rw[og];omega
  have hfin:=aa1 (cs:=gY.toList) (A:=A) (B:=B) (X:=x.cells) (k:=2) ht2 hxl (by have:gY.toList.length=gY.size:=Array.length_toList;omega) rfl;replace m4:w4.heap[b2]? = some (.cells ((gY.toList.take A.length++x.cells++gY.toList.drop (A.length+2)).take (((i:Int)+((1:Nat):Int)).toNat*2)++B++(gY.toList.take A.length++x.cells++gY.toList.drop (A.length+2)).drop (((i:Int)+((1:Nat):Int)).toNat*2+B.length)).toArray 128):=m4;rw[e2,hfin]at m4;have G4:GB none w w4:=(g2.new g3 l2).new g4 l2;refine⟨⟨⟨?_,.inr ⟨b2,cap2,_,congrArg (λz=>Value.slice (Pty b2) z cap2) (by rw[iq];omega),Nat.zero_le _,m4,?_,hm2,?_,?_⟩⟩,h.gb.trans G4,λy hy=>?_⟩,G4.weak,λy hy=>.inr ?_⟩
  ·rw[kF (f:=Row.cells) (size:=2) (λ_=>rfl)]
  ·rw[iq];exact hcc
  ·simp only[size_toArray,length_append,length_drop,Array.length_toList,hBl,hxl,og]
   omega
  ·rw[hres,iq]
   show(A++x.cells++B++_).take _=_;rw[take_left'];rw[length_append,length_append,og,hBl,hxl];omega
  ·have:b2=y:=by simpa[Value.ownBlock]using hy
   have:=h.gb.size;omega
  ·have:b2=y:=by simpa[Value.ownBlock]using hy
   omega
 ·have e1:l.length+1<=vc:=by have:=Ptx e;omega
  refine⟨by omega,by omega,?_⟩;refine⟨by omega,⟨by omega,by omega,by omega⟩,?_⟩;rw[jF (show ¬vc=((i:Int)+((1:Nat):Int)).toNat by omega)];refine⟨_,λw₁ hs=>⟨aa2 (by rw[hs.heap];exact hvb) rfl (by rw[hs.heap];exact aR) (by omega) hgn.symm,?_⟩⟩;have gs:GB none w w₁:=(GB.refl none w).same hs;have FI:=gs.get aR nofun;have Vh:=gs.get hvb nofun;refine⟨by kernel_rfl,by omega,⟨by omega,by omega,by omega⟩,⟨by omega,by omega,by omega⟩,?_⟩;rw[jF (n:=((l.length:Int)+((1:Nat):Int)).toNat - ((i:Int)+((1:Nat):Int)).toNat) (show ¬vc=((i:Int)+((1:Nat):Int)).toNat by omega),jF (n:=((l.length:Int)+((1:Nat):Int)).toNat - ((i:Int)).toNat) (show ¬vc=((i:Int)).toNat by omega)];have rM:Nat.min (((l.length:Int)+((1:Nat):Int)).toNat - ((i:Int)).toNat) (((l.length:Int)+((1:Nat):Int)).toNat - ((i:Int)+((1:Nat):Int)).toNat)=l.length - i:=by
   rw[show((l.length:Int)+((1:Nat):Int)).toNat - ((i:Int)+((1:Nat):Int)).toNat=l.length - i by omega];exact Nat.min_eq_right (by omega)
  have hi2:((i:Int)+((1:Nat):Int)).toNat*2=A.length+2:=by rw[og];omega
  have hcl:cur.toList.length=cur.size:=Array.length_toList;refine⟨_,_,B,FI,⟨_,_,FI,?_,?_,Sn⟩,?_,λw4 m4 g4=>?_⟩
  ·rw[rM];exact FH
  ·rw[rM];exact hBl
  ·show((i:Int)+((1:Nat):Int)).toNat*2+B.length<=_
   rw[hBl];omega
  replace m4:w4.heap[g]? = some (.cells (cur.toList.take (((i:Int)+((1:Nat):Int)).toNat*2)++B++cur.toList.drop (((i:Int)+((1:Nat):Int)).toNat*2+B.length)).toArray 128):=m4;rw[hi2]at m4;have Vi:=g4.get Vh λz=>hgn (Option.some.inj z).symm
  refine⟨⟨by omega,by omega,by omega⟩,?_⟩;rw[jF (n:=((l.length:Int)+((1:Nat):Int)).toNat - ((i:Int)).toNat) (show ¬vc=((i:Int)).toNat by omega)];have hmin:∀k,1<=k->Nat.min 1 k=1:=λk hk=>Nat.min_eq_left hk
  have hl1:(cur.toList.take (A.length+2)++B++cur.toList.drop (A.length+2+B.length)).length=cur.size:=by
   rw[length_append,length_append,length_take,length_drop,hcl,hBl,og];omega
  refine⟨_,_,x.cells,m4,⟨_,_,Vi,by rw[hmin _ (by omega)];rfl,by rw[hmin _ (by omega)];rfl,rfl⟩,?_,λw5 m5 g5=>?_⟩
  ·show i*2+2<=(toArray _).size
   rw[size_toArray,hl1];omega
  have hfin:=Sm (cs:=cur.toList) (A:=A) (B:=B) (X:=x.cells) (R:=cur.toList.drop (l.length*2)) (k:=2) (by rw[<-append_assoc,<-hAB,<-htk,take_append_drop]) hxl (by rw[length_drop,hcl];omega) rfl;replace m5:w5.heap[g]? = some (.cells ((cur.toList.take (A.length+2)++B++cur.toList.drop (A.length+2+B.length)).take (i*2)++x.cells++(cur.toList.take (A.length+2)++B++cur.toList.drop (A.length+2+B.length)).drop (i*2+2)).toArray 128):=m5;rw[<-og,hfin]at m5;have G5:GB (some g) w w5:=(gs.weak.trans g4).trans g5;refine⟨⟨⟨?_,.inr ⟨g,vc,_,congrArg (λz=>Value.slice (Pty g) z vc) (by rw[iq];omega),Nat.zero_le _,m5,?_,h4,?_,?_⟩⟩,h.gb.new G5 hnew,λy hy=>?_⟩,G5,λy hy=>.inl hy⟩
  ·rw[kF (f:=Row.cells) (size:=2) (λ_=>rfl)]
  ·rw[iq];exact e1
  ·simp only[size_toArray,length_append,length_drop,Array.length_toList,hBl,hxl,og]
   omega
  ·rw[hres,iq]
   show(A++x.cells++B++_).take _=_;rw[take_left'];rw[length_append,length_append,og,hBl,hxl];omega
  ·have:g=y:=by simpa[Value.ownBlock]using hy
   omega
theorem Yy{w0 w:World}{v:Value}{l:List aA}(h:LN 57 7 w0 w v l.length (l.map aA.cells).flatten)(hl:l.length<=100000){i:Nat}(hi:i<=l.length){x:aA}{vb:Nat}(hvb:w.heap[vb]? = some (.cells x.cells.toArray 57))(hne:v.ownBlock≠some vb):ag Tryz.prog 181 #[v,.int .i64 i,.slice (Pty vb) 1 1] w (λv' w'=>LN 57 7 w0 w' v' (kQ l i x).length ((kQ l i x).map aA.cells).flatten/\GB v.ownBlock w w'/\∀g,v'.ownBlock=some g->v.ownBlock=some g\/w.heap.size<=g):=by
 have hcap:∃a c,v=.slice a l.length c/\l.length<=c:=by
  rcases h.own.2 with⟨q,h0⟩|⟨g,cap,cur,q,_,_,h3,_⟩
  ·exact⟨none,0,by rw[q,h0],by omega⟩
  ·exact⟨_,_,q,h3⟩
 obtain⟨va,vc,rfl,hvc⟩:=hcap;have hsz:=kF (f:=aA.cells) (size:=7) (λ_=>rfl) l;refine ah Tryz.func181 rfl rfl ?_;refine⟨⟨by omega,by omega,by omega⟩,?_⟩;refine aj (λd=>?_) (λd=>?_)
 ·have d1:i=l.length:=by have:=eq_of_beq d;omega
  subst d1;refine⟨_,x.cells,h.own,⟨_,_,hvb,rfl,rfl,rfl⟩,by omega,λv' w2 ho g n=>?_⟩;have hin:kQ l l.length x=l++[x]:=by unfold kQ;rw[take_length,drop_length]
  refine⟨?_,g,n⟩;rw[hin,length_append,map_append,flatten_append];simpa using h.app ho g n
 have d1:i<l.length:=by
  have:¬(i:Int)=l.length:=by simpa using d
  omega
 obtain⟨g,cap,cur,ev,aR,htk,hsz2,hcap⟩:=jD h.own (by omega);injection ev with ea _ ec;subst ea ec;have hown:=h.own;rcases h.own.2 with⟨q,_⟩|⟨g',cap',cur',q,h0,h2,h3,h4,h5,h6⟩
 ·cases q
 injection q with q1 _ q3;injection q1 with q1;injection q1 with q1;subst q1 q3;rw[aR]at h2;injection h2 with h2;injection h2 with h2 _;subst h2;have hgn:g≠vb:=λe=>hne (by rw[e];rfl)
 have hlt:=ae aR;have hnew:=h.new g rfl;obtain⟨A,hA⟩:∃A,A=(l.map aA.cells).flatten.take (i*7):=⟨_,rfl⟩;obtain⟨B,hB⟩:∃B,B=(l.map aA.cells).flatten.drop (i*7):=⟨_,rfl⟩;have og:A.length=i*7:=by rw[hA,length_take];omega
 have hBl:B.length=(l.length - i)*7:=by rw[hB,length_drop,hsz];omega
 have hAB:(l.map aA.cells).flatten=A++B:=by rw[hA,hB,take_append_drop]
 have hres:((kQ l i x).map aA.cells).flatten=A++x.cells++B:=by rw[KR (f:=aA.cells) (size:=7) (λ_=>rfl),hA,hB]
 have hxl:x.cells.length=7:=rfl;have Sn:B.all one=true:=by rw[hB,tu (f:=aA.cells) (size:=7) (λ_=>rfl)];exact jw (λ_=>rfl) _
 have FH:aK cur.toList (i*7) ((l.length - i)*7)=B:=by
  rw[hB,<-htk];unfold aK;rw[drop_take,show l.length*7 - i*7=(l.length - i)*7 by omega]
 refine⟨by omega,aj (λe=>?_) (λe=>?_)⟩
 ·have e1:vc=l.length:=by have:=Ptq e;omega
  refine⟨by omega,by omega,by omega,_,GR hown (Nat.le_of_lt d1),by omega,by omega,by omega,λb2 cap2 gY w2 m2 hs2 ht2 hc2 hm2 g2 l2=>?_⟩;replace hs2:gY.size=cap2*7:=hs2;replace ht2:gY.toList.take A.length=A:=by
   rw[og,hA];exact ht2
  have acA:((i:Int)).toNat+((l.length:Int)+1 - i).toNat=l.length+1:=by omega
  have hcc:l.length+1<=cap2:=by omega
  have hcap2:¬cap2=i:=by omega
  have hnb:b2≠g:=by omega
  have Vg:=g2.get hvb nofun;have hg2:=g2.get aR nofun;have hbv:b2≠vb:=by have:=ae hvb;omega
  refine⟨⟨by omega,by omega,by omega⟩,?_⟩;rw[jF (show ¬cap2=((i:Int)).toNat from hcap2)];have hmin:∀k,1<=k->Nat.min 1 k=1:=λk hk=>Nat.min_eq_left hk
  refine⟨_,_,x.cells,m2,⟨_,_,Vg,by rw[hmin _ (by omega)];rfl,by rw[hmin _ (by omega)];rfl,rfl⟩,by show i*7+7<=_;omega,λw3 m3 g3=>?_⟩;replace m3:w3.heap[b2]? = some (.cells (gY.toList.take A.length++x.cells++gY.toList.drop (A.length+7)).toArray 57):=by rw[og];exact m3
  have hg3:=g3.get hg2 λz=>hnb (Option.some.inj z).symm
  refine⟨by kernel_rfl,by omega,⟨by omega,by omega,by omega⟩,⟨by omega,by omega,by omega⟩,?_⟩;rw[jF (show ¬cap2=((i:Int)+((1:Nat):Int)).toNat by omega),jF (show ¬vc=((i:Int)).toNat by omega)];have rM:Nat.min (l.length - ((i:Int)).toNat) (((i:Int)).toNat+((l.length:Int)+((1:Nat):Int) - i).toNat - ((i:Int)+((1:Nat):Int)).toNat)=l.length - i:=by
   rw[show((i:Int)).toNat+((l.length:Int)+((1:Nat):Int) - i).toNat - ((i:Int)+((1:Nat):Int)).toNat=l.length - i by omega,Int.toNat_natCast];exact Nat.min_self _
  refine⟨_,_,B,m3,⟨_,_,hg3,?_,?_,Sn⟩,?_,λw4 m4 g4=>?_⟩
  ·rw[rM];exact FH
  ·rw[rM];exact hBl
  ·show((i:Int)+((1:Nat):Int)).toNat*7+B.length<=_
   simp only[size_toArray,length_append,length_take,length_drop,Array.length_toList,hBl,hxl,og];omega
  have e2:((i:Int)+((1:Nat):Int)).toNat*7=A.length+7:=by rw[og];omega
  have hfin:=aa1 (cs:=gY.toList) (A:=A) (B:=B) (X:=x.cells) (k:=7) ht2 hxl (by have:gY.toList.length=gY.size:=Array.length_toList;omega) rfl;replace m4:w4.heap[b2]? = some (.cells ((gY.toList.take A.length++x.cells++gY.toList.drop (A.length+7)).take (((i:Int)+((1:Nat):Int)).toNat*7)++B++(gY.toList.take A.length++x.cells++gY.toList.drop (A.length+7)).drop (((i:Int)+((1:Nat):Int)).toNat*7+B.length)).toArray 57):=m4;rw[e2,hfin]at m4;have G4:GB none w w4:=(g2.new g3 l2).new g4 l2;refine⟨⟨⟨?_,.inr ⟨b2,cap2,_,congrArg (λz=>Value.slice (Pty b2) z cap2) (by rw[iq];omega),Nat.zero_le _,m4,?_,hm2,?_,?_⟩⟩,h.gb.trans G4,λy hy=>?_⟩,G4.weak,λy hy=>.inr ?_⟩
  ·rw[kF (f:=aA.cells) (size:=7) (λ_=>rfl)]
  ·rw[iq];exact hcc
  ·simp only[size_toArray,length_append,length_drop,Array.length_toList,hBl,hxl,og]
   omega
  ·rw[hres,iq]
   show(A++x.cells++B++_).take _=_;rw[take_left'];rw[length_append,length_append,og,hBl,hxl];omega
  ·have:b2=y:=by simpa[Value.ownBlock]using hy
   have:=h.gb.size;omega
  ·have:b2=y:=by simpa[Value.ownBlock]using hy
   omega
 ·have e1:l.length+1<=vc:=by have:=Ptx e;omega
  refine⟨by omega,by omega,?_⟩;refine⟨by omega,⟨by omega,by omega,by omega⟩,?_⟩;rw[jF (show ¬vc=((i:Int)+((1:Nat):Int)).toNat by omega)];refine⟨_,λw₁ hs=>⟨aa3 (by rw[hs.heap];exact hvb) rfl (by rw[hs.heap];exact aR) (by omega) hgn.symm,?_⟩⟩;have gs:GB none w w₁:=(GB.refl none w).same hs;have FI:=gs.get aR nofun;have Vh:=gs.get hvb nofun;refine⟨by kernel_rfl,by omega,⟨by omega,by omega,by omega⟩,⟨by omega,by omega,by omega⟩,?_⟩;rw[jF (n:=((l.length:Int)+((1:Nat):Int)).toNat - ((i:Int)+((1:Nat):Int)).toNat) (show ¬vc=((i:Int)+((1:Nat):Int)).toNat by omega),jF (n:=((l.length:Int)+((1:Nat):Int)).toNat - ((i:Int)).toNat) (show ¬vc=((i:Int)).toNat by omega)];have rM:Nat.min (((l.length:Int)+((1:Nat):Int)).toNat - ((i:Int)).toNat) (((l.length:Int)+((1:Nat):Int)).toNat - ((i:Int)+((1:Nat):Int)).toNat)=l.length - i:=by
   rw[show((l.length:Int)+((1:Nat):Int)).toNat - ((i:Int)+((1:Nat):Int)).toNat=l.length - i by omega];exact Nat.min_eq_right (by omega)
  have hi2:((i:Int)+((1:Nat):Int)).toNat*7=A.length+7:=by rw[og];omega
  have hcl:cur.toList.length=cur.size:=Array.length_toList;refine⟨_,_,B,FI,⟨_,_,FI,?_,?_,Sn⟩,?_,λw4 m4 g4=>?_⟩
  ·rw[rM];exact FH
  ·rw[rM];exact hBl
  ·show((i:Int)+((1:Nat):Int)).toNat*7+B.length<=_
   rw[hBl];omega
  replace m4:w4.heap[g]? = some (.cells (cur.toList.take (((i:Int)+((1:Nat):Int)).toNat*7)++B++cur.toList.drop (((i:Int)+((1:Nat):Int)).toNat*7+B.length)).toArray 57):=m4;rw[hi2]at m4;have Vi:=g4.get Vh λz=>hgn (Option.some.inj z).symm
  refine⟨⟨by omega,by omega,by omega⟩,?_⟩;rw[jF (n:=((l.length:Int)+((1:Nat):Int)).toNat - ((i:Int)).toNat) (show ¬vc=((i:Int)).toNat by omega)];have hmin:∀k,1<=k->Nat.min 1 k=1:=λk hk=>Nat.min_eq_left hk
  have hl1:(cur.toList.take (A.length+7)++B++cur.toList.drop (A.length+7+B.length)).length=cur.size:=by
   rw[length_append,length_append,length_take,length_drop,hcl,hBl,og];omega
  refine⟨_,_,x.cells,m4,⟨_,_,Vi,by rw[hmin _ (by omega)];rfl,by rw[hmin _ (by omega)];rfl,rfl⟩,?_,λw5 m5 g5=>?_⟩
  ·show i*7+7<=(toArray _).size
   rw[size_toArray,hl1];omega
  have hfin:=Sm (cs:=cur.toList) (A:=A) (B:=B) (X:=x.cells) (R:=cur.toList.drop (l.length*7)) (k:=7) (by rw[<-append_assoc,<-hAB,<-htk,take_append_drop]) hxl (by rw[length_drop,hcl];omega) rfl;replace m5:w5.heap[g]? = some (.cells ((cur.toList.take (A.length+7)++B++cur.toList.drop (A.length+7+B.length)).take (i*7)++x.cells++(cur.toList.take (A.length+7)++B++cur.toList.drop (A.length+7+B.length)).drop (i*7+7)).toArray 57):=m5;rw[<-og,hfin]at m5;have G5:GB (some g) w w5:=(gs.weak.trans g4).trans g5;refine⟨⟨⟨?_,.inr ⟨g,vc,_,congrArg (λz=>Value.slice (Pty g) z vc) (by rw[iq];omega),Nat.zero_le _,m5,?_,h4,?_,?_⟩⟩,h.gb.new G5 hnew,λy hy=>?_⟩,G5,λy hy=>.inl hy⟩
  ·rw[kF (f:=aA.cells) (size:=7) (λ_=>rfl)]
  ·rw[iq];exact e1
  ·simp only[size_toArray,length_append,length_drop,Array.length_toList,hBl,hxl,og]
   omega
  ·rw[hres,iq]
   show(A++x.cells++B++_).take _=_;rw[take_left'];rw[length_append,length_append,og,hBl,hxl];omega
  ·have:g=y:=by simpa[Value.ownBlock]using hy
   omega
theorem Yz{b c i k n d:Nat}:Value.slice (if c=i then some ⟨b,0,none⟩else Option.map (λx:Addr=>x.add k) (some ⟨b,0,none⟩)) n d=.slice (some ⟨b,if c=i then 0 else k,none⟩) n d:=by
 split
 ·rfl
 ·rw[Option.map_some,addr_add]
theorem wD{w:World}{e size n g c:Nat}{xs:List Value}(h:w.ownsRow 0 e size (.slice (Pty g) n c) n xs):∃cur,w.heap[g]? = some (.cells cur e)/\n<=c/\c<=maxLen/\cur.size=c*size/\cur.toList.take (n*size)=xs:=by
 rcases h.2 with⟨q,_⟩|⟨g',cap',cur,q,h0,h2,h3,h4,h5,h6⟩
 ·cases q
 injection q with q1 _ q3;injection q1 with q1;injection q1 with q1;subst q1 q3;exact⟨cur,h2,h3,h4,h5,h6⟩
theorem YA{w0 w:World}{v:Value}{l:List Row}(h:LN 128 2 w0 w v l.length (l.map Row.cells).flatten)(hl:l.length<=100000){i:Nat}(hi:i<l.length):ag Tryz.prog 178 #[v,.int .i64 i,.int .i64 ((i:Int)+1)] w (λv' w'=>LN 128 2 w0 w' v' (l.eraseIdx i).length ((l.eraseIdx i).map Row.cells).flatten/\GB v.ownBlock w w'/\∀g,v'.ownBlock=some g->v.ownBlock=some g\/w.heap.size<=g):=by
 obtain⟨g,vc,aff,rfl,aR,htk,hsz2,hcap⟩:=jD h.own (by omega);obtain⟨cur,tX,h3,h4,h5,h6⟩:=wD h.own;rw[aR]at tX;injection tX with tX;injection tX with tX _;subst tX;have hsz:=kF (f:=Row.cells) (size:=2) (λ_=>rfl) l;have hnew:=h.new g rfl;have Vj:(l.eraseIdx i).length=l.length - 1:=length_eraseIdx_of_lt hi;have her:((l.eraseIdx i).map Row.cells).flatten=(l.map Row.cells).flatten.take (i*2)++(l.map Row.cells).flatten.drop ((i+1)*2):=by
  rw[yI (f:=Row.cells) (size:=2) (λ_=>rfl),tu (f:=Row.cells) (size:=2) (λ_=>rfl),<-flatten_append,<-map_append,eraseIdx_eq_take_drop_succ]
 refine ah Tryz.func178 rfl rfl ?_;refine⟨⟨by omega,by omega,by omega,by omega⟩,aj (λe=>?_) (λe=>?_)⟩
 ·have:=eq_of_beq e
  omega
 refine⟨by kernel_rfl,by omega,⟨by omega,by omega,by omega⟩,?_⟩;rw[Yz (c:=vc) (i:=((i:Int)+1).toNat)];have hB1:((l.map Row.cells).flatten.drop ((i+1)*2)).length=(l.length - (i+1))*2:=by rw[length_drop,hsz];omega
 refine⟨_,(l.map Row.cells).flatten.drop ((i+1)*2),GR h.own (Nat.le_of_lt hi),⟨_,_,aR,?_,?_,?_⟩,by omega,λv' w2 ho g2 n2=>?_⟩
 ·rw[show l.length - ((i:Int)+1).toNat=l.length - (i+1)by omega]
  by_cases hz:l.length - (i+1)=0
  ·rw[hz]
   have:((l.map Row.cells).flatten.drop ((i+1)*2))=[]:=eq_nil_of_length_eq_zero (by omega);rw[this];unfold aK;simp
  ·rw[if_neg (by omega),<-htk]
   unfold aK;rw[drop_take,show((i:Int)+1).toNat=i+1 by omega,show l.length*2 - (i+1)*2=(l.length - (i+1))*2 by omega];rfl
 ·rw[hB1];show _=(l.length - ((i:Int)+1).toNat)*2;omega
 ·rw[tu (f:=Row.cells) (size:=2) (λ_=>rfl)];exact jw (λ_=>rfl) _
 have ev:=n2.inp g rfl (by omega);subst ev;have hlen:((i:Int)).toNat+(l.length - ((i:Int)+1).toNat)=l.length - 1:=by omega
 replace ho:w2.ownsRow 0 128 2 (.slice (Pty g) (l.length - 1) vc) (l.length - 1) ((l.eraseIdx i).map Row.cells).flatten:=by
  rw[her,<-hlen];exact ho
 obtain⟨gY,hc2,h23,h24,h25,h26⟩:=wD ho;refine⟨⟨by omega,by omega,by omega⟩,?_⟩;rw[jF (show ¬vc=(((((i:Int)).toNat+(l.length - ((i:Int)+1).toNat):Nat):Int)).toNat by omega)];refine⟨by omega,gY,_,hc2,?_,λzs w3 hzs m3 g3=>?_⟩
 ·rw[h25]
  show _*2+_*2<=vc*2;omega
 have G3:GB (some g) w w3:=GB.trans g2 g3;refine⟨⟨⟨?_,.inr ⟨g,vc,_,congrArg (λz=>Value.slice (Pty g) z vc) (by rw[Vj];exact hlen),Nat.zero_le _,m3,?_,h4,?_,?_⟩⟩,h.gb.new G3 hnew,λy hy=>?_⟩,G3,λy hy=>.inl hy⟩
 ·rw[kF (f:=Row.cells) (size:=2) (λ_=>rfl)]
 ·rw[Vj];omega
 ·have hzl:zs.length=(l.length - (l.length - 1))*2:=by
   rw[hzs];show(_ - _)*2=_;omega
  have Vk:gY.toList.length=gY.size:=Array.length_toList;simp only[size_toArray,length_append,length_take,length_drop,Vk,hzl,h25];show min (_*2) _+_+(_ - (_*2+_))=_;omega
 ·rw[Vj,<-h26]
  show List.take _ (List.take (_*2) gY.toList++zs++_)=_;have Vk:gY.toList.length=gY.size:=Array.length_toList;rw[append_assoc,take_append_of_le_length (by rw[length_take,Vk,h25];omega),take_take,Nat.min_eq_left (by omega)]
 ·have:g=y:=by simpa[Value.ownBlock]using hy
  omega
end
