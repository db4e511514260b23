/- Junk. -/
import Derived.Test.YtignemioillaiabGreatG52
namespace Go.Proofs.YtignemioillaiabGreat
set_option maxHeartbeats 8000000
set_option maxRecDepth 100000
section
open Go Go.Conc
noncomputable def OT (b:Nat) (z:Nat×Nat):kM Tryz.prog:={ ah with Gi:=λ x=>if x=b then z else (0,0) }
theorem E5 {w:World} {b:Nat} {z:Nat×Nat} {c:Array Value} {t:TypeId} (h:w.heap[b]? = some (.cells c t z)):w.heap[b]? = some (.cells c t ((OT b z).Gi b)):=by
 show _=some (Obj.cells c t (if b=b then z else (0,0)));rw [if_pos rfl];exact h
theorem Kk {w:World} {b x:Nat} {z:Nat×Nat} {c d:Array Value} {t u:TypeId} (h:w.heap[b]? = some (.cells c t z)) (k:w.heap[x]? = some (.cells d u)):w.heap[x]? = some (.cells d u ((OT b z).Gi x)):=by
 show _=some (Obj.cells d u (if x=b then z else (0,0)));split
 ·rename_i e;subst e;rw [h] at k |-;injection k with k;injection k with k1 k2 k3;rw [k1,k2]
 ·exact k
theorem aL.adF {A:aT} {C:aL} (hf:C.aK A) {k:Nat} {g i:Nat} {d:ByteArray} (hq:C.q[k]? = some ⟨255,255,g,i,d⟩) (hd:∀ m,A.dec d=some m->m.kind≠1):(C.fV A k).q=C.q:=by
 unfold aL.fV;rw [hq];show (if _ then _ else _:aL).q=_;split
 ·rename_i c
  have e:iU A (C.F (g:Int).toNat (i:Int).toNat) (255,255) d=C.F (g:Int).toNat (i:Int).toNat:=by
   unfold iU;split
   ·rfl
   ·rename_i m hm;exact if_pos ⟨rfl,hd m hm⟩
  show List.take 20000 (C.q++(iU A (C.F (g:Int).toNat (i:Int).toNat) (255,255) d).out)=C.q;rw [e,hf.out _ _ c.1 c.2,List.append_nil,List.take_of_length_le hf.len]
 ·rfl
section
variable {A L:aT} (HA:bK A) (HN:gJ A) (HL:rO A) (HP:rQ A) (HA1:bK L) (Rs:gJ L) (Rt:rO L) (HV:EW L) (hL:L.N=1) {W:World}
include HA HN HL HP HA1 Rs Rt HV hL
theorem Xv {g f:Int} (hg:qH g) (hf:qH f) (hNA:1+bf g 4=A.N) {l:List Stp} {v:Value} (hl:MU W 11 v l.length (l.map Stp.cells).flatten) (hn:l.length<=9223372036854775807) (hwf:∀ t∈l,t.wf A) {js:List ByteArray} {vj:Value} (hj:MU W 1 vj js.length (js.map Value.string)) (hjn:js.length<=9223372036854775807) {ats:List Int} {va:Value} (ha:MU W 1 va ats.length (ats.map (Value.int .i64))) (hat:∀ a∈ats,qH a):aJ Tryz.prog Tryz.f5.ntmps (Tryz.f5.body.getD .skip) (Ab ah Tryz.f5.results.toList (λ v w'=>v=.bool true/\GB none W w')) (uI [.int .i64 g,.int .i64 f,v,vj,va] 0) W:=by
 refine aJ.piece (Q:=λ q w'=>q=[(0,.int .i64 g),(1,.int .i64 f),(2,v),(3,vj),(4,va)]/\w'=W) (aJ.of ah mixed ⟨_,by exact ⟨rfl,rfl,rfl,rfl,rfl,trivial⟩,rfl,rfl⟩) ?_;rintro q W ⟨rfl,rfl⟩;refine aJ.piece (Q:=λ q w1=>∃ bs S,q=[(3,vj),(4,va),(11,Ptt bs),(12,.bool true)]/\bY (dK W) bs S w1/\bT A S) (aJ.of ah mixed ?_) ?_
 ·have hp:=Uv HA HN HL HP HA1 Rs Rt HV hL hg hf hNA hl hn hwf
  obtain ⟨vv,vc,rfl,_⟩:=hl;refine ⟨_,hp,?_⟩;rintro _ w1 ⟨bs,S,rfl,h1,i1⟩;exact ⟨_,by exact ⟨rfl,rfl,rfl,rfl,trivial⟩,bs,S,rfl,h1,i1⟩
 rintro q w1 ⟨bs,S0,rfl,h1,i0⟩;refine aJ.piece (Q:=λ q w'=>q=[(3,vj),(4,va),(11,Ptt bs)]/\w'=w1) (aJ.of ah mixed ⟨_,by exact ⟨rfl,rfl,rfl,trivial⟩,rfl,rfl⟩) ?_;rintro q w1 ⟨rfl,rfl⟩;obtain ⟨ja,cj,rfl,hjc,hjl,hjd⟩:=hj;obtain ⟨aa,ca,rfl,hac,hal,had⟩:=ha;refine aJ.cut (Qn:=λ q w'=>q=[]/\GB none W w') (Qx:=λ _ _ _=>False) (Qr:=λ q w'=>q=[(10,.bool true)]/\GB none W w') ?_ ?_ (λ _ _ _ _ h _=>h.elim) ?_;rotate_left
 ·rintro q w' ⟨rfl,g'⟩
  refine aJ.of ah mixed ?_;exact ⟨rfl,g'⟩
 ·rintro q s w' ⟨rfl,g'⟩ hs
  exact qY hs ⟨rfl,g'⟩
 refine aJ.piece (Q:=λ q w'=>q=[(3,.slice ja js.length cj),(4,.slice aa ats.length ca),(11,Ptt bs),(13,.int .i64 0)]/\w'=w1) (aJ.of ah mixed ⟨_,by exact ⟨rfl,rfl,rfl,rfl,trivial⟩,rfl,rfl⟩) ?_;rintro q w1 ⟨rfl,rfl⟩;refine aJ.block ?_;refine aJ.loop (λ m s wk=>∃ (i:Nat) (S:Sit),m=js.length - i/\i<=js.length/\s=[(3,.slice ja js.length cj),(4,.slice aa ats.length ca),(11,Ptt bs),(13,.int .i64 i)]/\bT A S/\bY (dK W) bs S wk) ⟨_,_,⟨0,S0,rfl,Nat.zero_le _,rfl,i0,h1⟩,rfl,rfl,rfl,rfl,trivial⟩ ?_;clear h1 i0;rintro m s wk ⟨i,S,rfl,hi,rfl,hI,hK⟩;refine aJ.cut (Qn:=λ q w'=>i<js.length/\q=[(3,.slice ja js.length cj),(4,.slice aa ats.length ca),(11,Ptt bs),(13,.int .i64 i)]/\w'=wk) (Qx:=λ j q w'=>j=0/\q=[]/\w'=wk) (Qr:=λ _ _=>False) (aJ.of ah mixed ?_) ?_ ?_ (λ _ _ _ h _=>h.elim)
 ·refine au (λ c=>?_) (λ c=>?_)
  ·exact ⟨_,by exact ⟨rfl,rfl,rfl,rfl,trivial⟩,by have:=of_decide_eq_true c;omega,rfl,rfl⟩
  ·exact ⟨_,by exact trivial,rfl,rfl,rfl⟩
 rotate_left
 ·rintro j q s w' ⟨rfl,rfl,rfl⟩ hs
  exact ⟨_,hs,rfl,hK.snap⟩
 rintro q wk ⟨c1,rfl,rfl⟩;rcases hjd with h0 | ⟨Bj,oj,csj,tyj,zj,rfl,hBj,hcj⟩
 ·omega
 obtain ⟨d,hd⟩:∃ d,js[i]? = some d:=⟨js[i],by simp [c1]⟩;have hel:csj.toList[oj+i]? = some (.string d):=by
  have:=congrArg (λ l:List Value=>l[i]?) hcj;simp only [aQ,List.getElem?_map,hd,Option.map_some,Nat.mul_one] at this;rw [List.getElem?_take_of_lt c1,List.getElem?_drop] at this;exact this
 refine aJ.cut (Qn:=λ q w'=>q=[(3,.slice (some ⟨Bj,oj,none⟩) js.length cj),(4,.slice aa ats.length ca),(11,Ptt bs),(13,.int .i64 i)]/\∃ S,bT A S/\bY (dK W) bs S w') (Qx:=λ _ _ _=>False) (Qr:=λ q w'=>q=[(10,.bool true)]/\GB none W w') ?_ ?_ (λ _ _ _ _ h _=>h.elim) ?_;rotate_left
 ·rintro q w' ⟨rfl,S',f1,h'⟩
  refine aJ.of ah mixed ?_;exact ⟨⟨by omega,by omega⟩,_,_,⟨i+1,S',rfl,by omega,rfl,f1,h'⟩,⟨rfl,rfl,rfl,rfl,trivial⟩,by omega⟩
 ·rintro q s w' ⟨rfl,g'⟩ hs
  exact ⟨_,hs,rfl,g'⟩
 refine aJ.block ?_;have jB:=hI.fine.cl.n;have hs5:=hI.fine.cl.sz;have hlen:=hI.fine.cl.len;refine aJ.piece (Q:=λ q w'=>q=[(3,.slice (some ⟨Bj,oj,none⟩) js.length cj),(4,.slice aa ats.length ca),(11,Ptt bs),(13,.int .i64 i),(14,.int .i64 0)]/\w'=wk) (aJ.of ah mixed ⟨_,by exact ⟨rfl,rfl,rfl,rfl,rfl,trivial⟩,rfl,rfl⟩) ?_;rintro q wk ⟨rfl,rfl⟩;refine aJ.piece (Q:=λ q w'=>∃ to:Int,qH to/\q=[(3,.slice (some ⟨Bj,oj,none⟩) js.length cj),(4,.slice aa ats.length ca),(11,Ptt bs),(13,.int .i64 i),(14,.int .i64 to)]/\w'=wk) ?_ ?_
 ·refine aJ.piece (Q:=λ q w'=>∃ r,(r=true->i<ats.length)/\q=[(3,.slice (some ⟨Bj,oj,none⟩) js.length cj),(4,.slice aa ats.length ca),(11,Ptt bs),(13,.int .i64 i),(14,.int .i64 0),(40,.bool r)]/\w'=wk) (aJ.of ah mixed ⟨_,by exact ⟨rfl,rfl,rfl,rfl,rfl,rfl,trivial⟩,_,λ h=>by have:=of_decide_eq_true h;omega,rfl,rfl⟩) ?_
  rintro q wk ⟨r,hr,rfl,rfl⟩;refine aJ.cond r rfl ?_;cases r
  ·exact aJ.of ah mixed ⟨_,by exact ⟨rfl,rfl,rfl,rfl,rfl,trivial⟩,0,by unfold qH;omega,rfl,rfl⟩
  ·have c2:=hr rfl
   rcases had with h0 | ⟨Ba,oa,csa,tya,za,rfl,hBa,hca⟩
   ·omega
   obtain ⟨to,hto⟩:∃ to,ats[i]? = some to:=⟨ats[i],by simp [c2]⟩;have adH:csa.toList[oa+i]? = some (.int .i64 to):=by
    have:=congrArg (λ l:List Value=>l[i]?) hca;simp only [aQ,List.getElem?_map,hto,Option.map_some,Nat.mul_one] at this;rw [List.getElem?_take_of_lt c2,List.getElem?_drop] at this;exact this
   refine aJ.of (Uq za) mixed ⟨⟨by omega,by omega⟩,_,_,hK.snap.get hBa nofun,.int .i64 to,by show csa.toList[oa+(i:Int).toNat*1]? = _;rw [Int.toNat_natCast,Nat.mul_one];exact adH,?_⟩;exact ⟨_,by exact ⟨rfl,rfl,rfl,rfl,rfl,trivial⟩,to,hat to (List.mem_of_getElem? hto),rfl,rfl⟩
 rintro q wk ⟨to,hto,rfl,rfl⟩;have hsn:GB none W wk:=hK.snap;obtain ⟨bc,a,gv,sv,B,ad,hS⟩:=hK;obtain ⟨q1,q2⟩:=mG (C:=S.C) (k:=to) hI.fine.n hI.fine.sz;have OU:csj.toList[oj+(i:Int).toNat*1]? = some (.string d):=by rw [Int.toNat_natCast,Nat.mul_one];exact hel
 refine aJ.piece (Q:=λ q w8=>∃ b7 e m rv dv vv rv' dS,q=[(3,.slice (some ⟨Bj,oj,none⟩) js.length cj),(4,.slice aa ats.length ca),(11,Ptt bs),(13,.int .i64 i),(14,.int .i64 to),(15,Ptt b7),(16,.int .i64 e)]/\w8.heap[b7]? = some (.cells (dL m rv dv vv rv' dS).toArray 83)/\((e=0/\A.dec d=some m)\/(e≠0/\A.dec d=none))/\GB none wk w8) (aJ.of (Uq zj) mixed ?_) ?_
 ·refine ⟨⟨by omega,by omega⟩,_,_,hsn.get hBj nofun,.string d,OU,_,(HA.parse wk d).x,?_⟩
  rintro _ w6 ⟨⟨mv,e,m,rfl,hm,hc⟩,g6⟩;obtain ⟨rv,dv,vv,rv',dS,rfl,i1,i2,i3⟩:=hm;obtain ⟨_,_,_,_,_,_,rfl,rfl⟩:=i1.sl;obtain ⟨_,_,rfl⟩:=i2.sl;obtain ⟨_,_,_,_,_,_,rfl,rfl⟩:=i3.sl;refine λ w7 b7 m7 g7 l7=>⟨_,_,_,m7,rfl,rfl,λ w8 m8 g8=>?_⟩
  exact ⟨_,by exact ⟨rfl,rfl,rfl,rfl,rfl,rfl,rfl,trivial⟩,b7,e,m,_,_,_,_,_,rfl,m8,hc.imp (λ x=>⟨x.1,x.2.1⟩) id,g6.trans (g7.new g8 l7)⟩
 rintro q w8 ⟨b7,e,m,rv,dv,vv,rv',dS,rfl,m8,hc,g8⟩;have h8:=hS.ax g8;have MZ:=(hsn.trans g8).get hBj nofun;refine aJ.cut (Qn:=λ q w'=>(∀ m,A.dec d=some m->m.kind≠1)/\¬ d.size > 1000/\q=[(3,.slice (some ⟨Bj,oj,none⟩) js.length cj),(4,.slice aa ats.length ca),(11,Ptt bs),(13,.int .i64 i),(14,.int .i64 to)]/\w'=w8) (Qx:=λ j q w'=>j=1/\q=[(3,.slice (some ⟨Bj,oj,none⟩) js.length cj),(4,.slice aa ats.length ca),(11,Ptt bs),(13,.int .i64 i)]/\w'=w8) (Qr:=λ _ _=>False) (aJ.of (OT Bj zj) mixed ?_) ?_ ?_ (λ _ _ _ h _=>h.elim)
 ·rcases hc with ⟨rfl,hc⟩ | ⟨he,hc⟩
  ·refine ⟨_,_,Kk MZ m8,_,rfl,au (λ c=>?_) (λ c=>?_)⟩
   ·have c2:m.kind≠1:=by simpa using c
    refine ⟨⟨by omega,by omega⟩,_,_,E5 MZ,.string d,OU,au (λ c=>?_) (λ c=>?_)⟩
    ·exact ⟨_,by exact ⟨rfl,rfl,rfl,rfl,trivial⟩,rfl,rfl,rfl⟩
    ·exact ⟨_,by exact ⟨rfl,rfl,rfl,rfl,rfl,trivial⟩,λ m' h'=>(by rw [hc] at h';cases h';exact c2),by have:=of_decide_eq_false c;omega,rfl,rfl⟩
   ·exact ⟨_,by exact ⟨rfl,rfl,rfl,rfl,trivial⟩,rfl,rfl,rfl⟩
  ·refine au (λ c=>?_) (λ c=>?_)
   ·exfalso;simp at c;exact he c
   ·refine ⟨⟨by omega,by omega⟩,_,_,E5 MZ,.string d,OU,au (λ c=>?_) (λ c=>?_)⟩
    ·exact ⟨_,by exact ⟨rfl,rfl,rfl,rfl,trivial⟩,rfl,rfl,rfl⟩
    ·exact ⟨_,by exact ⟨rfl,rfl,rfl,rfl,rfl,trivial⟩,λ m' h'=>(by rw [hc] at h';cases h'),by have:=of_decide_eq_false c;omega,rfl,rfl⟩
 rotate_left
 ·rintro j q s w' ⟨rfl,rfl,rfl⟩ hs
  exact ⟨_,hs,rfl,S,hI,_,_,_,_,_,_,h8⟩
 rintro q w8 ⟨hno,hsz,rfl,rfl⟩;obtain ⟨en,ez⟩:=S.C.qG (aZ S.C to) (bH S.C to) d;have hI1:=hI.send q1 q2 d;refine aJ.piece (Q:=λ q w9=>q=[(3,.slice (some ⟨Bj,oj,none⟩) js.length cj),(4,.slice aa ats.length ca),(11,Ptt bs),(13,.int .i64 i),(17,.int .i64 S.C.q.length),(18,.int .i64 0)]/\bY (dK W) bs { S with C:=S.C.send (aZ S.C to) (bH S.C to) d } w9) (aJ.of (OT Bj zj) mixed ?_) ?_
 ·refine ⟨by kernel_rfl,_,_,Kk MZ h8.si.mem,_,rfl,⟨by omega,by omega⟩,_,_,E5 MZ,.string d,OU,_,(nD h8.si.mem ⟨hI.fine.n,jB⟩ ⟨hI.fine.sz,hs5⟩ to hto.1 hto.2).x,?_⟩
  rintro _ w9 ⟨rfl,g9⟩;have h9:=h8.ax g9;have hB9:=g9.get MZ nofun;refine ⟨⟨E5 hB9,Kk hB9 h9.si.mem,trivial⟩,_,(Jw h9.enter jB hs5 (aZ S.C to) (bH S.C to) (by omega) (by omega) d).x,?_⟩;rintro _ qm ⟨rfl,Vy,k9⟩;rw [if_pos ⟨⟨q1,q2⟩,hsz⟩,if_pos ⟨q1,q2⟩,if_neg hsz];exact ⟨_,by exact ⟨rfl,rfl,rfl,rfl,rfl,rfl,trivial⟩,rfl,h9.leave en ez Vy k9⟩
 rintro q w9 ⟨rfl,hK9⟩;refine aJ.piece (Q:=λ q w'=>q=[(3,.slice (some ⟨Bj,oj,none⟩) js.length cj),(4,.slice aa ats.length ca),(11,Ptt bs),(13,.int .i64 i),(17,.int .i64 S.C.q.length)]/\w'=w9) (aJ.of ah mixed ⟨_,by exact ⟨rfl,rfl,rfl,rfl,rfl,trivial⟩,rfl,rfl⟩) ?_;rintro q w9 ⟨rfl,rfl⟩;refine aJ.cut (Qn:=λ q w'=>S.C.q.length<20000/\q=[(3,.slice (some ⟨Bj,oj,none⟩) js.length cj),(4,.slice aa ats.length ca),(11,Ptt bs),(13,.int .i64 i),(17,.int .i64 S.C.q.length)]/\w'=w9) (Qx:=λ _ _ _=>False) (Qr:=λ q w'=>q=[(10,.bool true)]/\w'=w9) (aJ.of ah mixed ?_) ?_ (λ _ _ _ _ h _=>h.elim) ?_
 ·refine au (λ c=>?_) (λ c=>?_)
  ·exact ⟨_,by exact ⟨rfl,trivial⟩,rfl,rfl⟩
  ·exact ⟨_,by exact ⟨rfl,rfl,rfl,rfl,rfl,trivial⟩,by have:=of_decide_eq_false c;omega,rfl,rfl⟩
 rotate_left
 ·rintro q s w' ⟨rfl,rfl⟩ hs
  exact ⟨_,hs,rfl,hK9.snap⟩
 rintro q w9 ⟨hlt,rfl,rfl⟩;obtain ⟨S1,hS1⟩:∃ S1:Sit,S1={ S with C:=S.C.send (aZ S.C to) (bH S.C to) d }:=⟨_,rfl⟩;have Lg:S1.C.q=S.C.q++[⟨255,255,aZ S.C to,bH S.C to,d⟩]:=by
  rw [hS1];show (S.C.send (aZ S.C to) (bH S.C to) d).q=_;unfold aL.send;rw [if_pos ⟨⟨q1,q2⟩,hsz⟩];exact Ar hlt
 rw [<- hS1] at hK9 hI1;refine aJ.piece (Q:=λ q w'=>q=[(3,.slice (some ⟨Bj,oj,none⟩) js.length cj),(4,.slice aa ats.length ca),(11,Ptt bs),(13,.int .i64 i),(17,.int .i64 S.C.q.length)]/\∃ S2,S2.C.q=S1.C.q/\bT A S2/\bY (dK W) bs S2 w') ?_ ?_
 ·refine aJ.piece (Q:=λ q w'=>q=[(3,.slice (some ⟨Bj,oj,none⟩) js.length cj),(4,.slice aa ats.length ca),(11,Ptt bs),(13,.int .i64 i),(17,.int .i64 S.C.q.length),(19,.int .i64 0)]/\w'=w9) (aJ.of ah mixed ⟨_,by exact ⟨rfl,rfl,rfl,rfl,rfl,rfl,trivial⟩,rfl,rfl⟩) ?_
  rintro q w9 ⟨rfl,rfl⟩;refine aJ.block ?_;refine aJ.loop (λ m s w5=>∃ (k:Nat) (S2:Sit),m=2 - k/\k<=2/\s=[(3,.slice (some ⟨Bj,oj,none⟩) js.length cj),(4,.slice aa ats.length ca),(11,Ptt bs),(13,.int .i64 i),(17,.int .i64 S.C.q.length),(19,.int .i64 k)]/\S2.C.q=S1.C.q/\bT A S2/\bY (dK W) bs S2 w5) ⟨_,_,⟨0,S1,rfl,Nat.zero_le _,rfl,rfl,hI1,hK9⟩,rfl,rfl,rfl,rfl,rfl,rfl,trivial⟩ ?_;rintro m s w5 ⟨k,S2,rfl,hk,rfl,e2,hI2,hK2⟩;refine aJ.cut (Qn:=λ q w'=>k<2/\q=[(3,.slice (some ⟨Bj,oj,none⟩) js.length cj),(4,.slice aa ats.length ca),(11,Ptt bs),(13,.int .i64 i),(17,.int .i64 S.C.q.length),(19,.int .i64 k)]/\w'=w5) (Qx:=λ j q w'=>j=2/\q=[(3,.slice (some ⟨Bj,oj,none⟩) js.length cj),(4,.slice aa ats.length ca),(11,Ptt bs),(13,.int .i64 i),(17,.int .i64 S.C.q.length)]/\w'=w5) (Qr:=λ _ _=>False) (aJ.of ah mixed ?_) ?_ ?_ (λ _ _ _ h _=>h.elim)
  ·refine au (λ c=>?_) (λ c=>?_)
   ·exact ⟨_,by exact ⟨rfl,rfl,rfl,rfl,rfl,rfl,trivial⟩,by have:=of_decide_eq_true c;omega,rfl,rfl⟩
   ·exact ⟨_,by exact ⟨rfl,rfl,rfl,rfl,rfl,trivial⟩,rfl,rfl,rfl⟩
  rotate_left
  ·rintro j q s w' ⟨rfl,rfl,rfl⟩ hs
   exact ⟨_,hs,rfl,S2,e2,hI2,hK2⟩
  rintro q w5 ⟨ck,rfl,rfl⟩;refine aJ.piece (Q:=λ q w'=>q=[(3,.slice (some ⟨Bj,oj,none⟩) js.length cj),(4,.slice aa ats.length ca),(11,Ptt bs),(13,.int .i64 i),(17,.int .i64 S.C.q.length),(19,.int .i64 k)]/\∃ S3,S3.C.q=S1.C.q/\bT A S3/\bY (dK W) bs S3 w') ?_ ?_;rotate_left
  ·rintro q w' ⟨rfl,S3,e3,hI3,hK3⟩
   refine aJ.of ah mixed ?_;exact ⟨⟨by omega,by omega⟩,_,_,⟨k+1,S3,rfl,by omega,rfl,e3,hI3,hK3⟩,⟨rfl,rfl,rfl,rfl,rfl,rfl,trivial⟩,by omega⟩
  refine aJ.block ?_;have hq2:S2.C.q[S.C.q.length]? = some ⟨255,255,aZ S.C to,bH S.C to,d⟩:=by rw [e2,Lg];simp
  have hl2:S.C.q.length<S2.C.q.length:=(List.getElem?_eq_some_iff.1 hq2).1;have eqd:(S2.C.dH A (S.C.q.length:Int)).q=S2.C.q:=by
   unfold aL.dH;rw [if_pos (Int.natCast_nonneg _),Int.toNat_natCast];exact aL.adF hI2.fine.cl hq2 hno
  obtain ⟨bc2,a2,gv2,sv2,B2,ad2,hS2⟩:=hK2;refine aJ.piece (Q:=λ q w'=>q=[(3,.slice (some ⟨Bj,oj,none⟩) js.length cj),(4,.slice aa ats.length ca),(11,Ptt bs),(13,.int .i64 i),(17,.int .i64 S.C.q.length),(19,.int .i64 k),(20,.int .i64 0)]/\bY (dK W) bs { S2 with C:=S2.C.dH A (S.C.q.length:Int) } w') (aJ.of ah mixed ?_) ?_
  ·refine ⟨_,_,hS2.si.mem,_,rfl,_,wo HA HN hS2.enter hI2.fine.cl (S.C.q.length:Int),?_⟩
   rintro _ w6 ⟨rfl,hC6,k6⟩;rw [if_pos ⟨by omega,by omega⟩];exact ⟨_,by exact ⟨rfl,rfl,rfl,rfl,rfl,rfl,rfl,trivial⟩,rfl,hS2.leave (aL.jr _ _ _).1 (aL.jr _ _ _).2 hC6 k6⟩
  rintro q w6 ⟨rfl,hK6⟩;refine aJ.of ah mixed ?_;exact ⟨_,by exact ⟨rfl,rfl,rfl,rfl,rfl,rfl,trivial⟩,rfl,_,eqd.trans e2,bT.dH HA HN HP hI2 _,hK6⟩
 rintro q w5 ⟨rfl,S2,e2,hI2,hK2⟩;obtain ⟨b1,b2,b3⟩:=hI2.look;have hlk:=J6 HN hK2 hI2.fine;rw [b1] at hlk;refine aJ.piece (Q:=λ q w'=>q=[(3,.slice (some ⟨Bj,oj,none⟩) js.length cj),(4,.slice aa ats.length ca),(11,Ptt bs),(13,.int .i64 i),(17,.int .i64 S.C.q.length),(21,.bool true)]/\bY (dK W) bs S2.look.1 w') (aJ.of ah mixed ?_) ?_
 ·refine ⟨_,hlk.x,?_⟩
  rintro _ w6 ⟨rfl,h6,_⟩;exact ⟨_,by exact ⟨rfl,rfl,rfl,rfl,rfl,rfl,trivial⟩,rfl,h6⟩
 rintro q w6 ⟨rfl,hK6⟩;obtain ⟨Vz,a6,gv6,sv6,B6,ad6,hS6⟩:=hK6;have adJ:S2.look.1.C.q.length=S.C.q.length+1:=by rw [b3,e2,Lg];simp
 refine aJ.of ah mixed ?_;refine ⟨_,_,hS6.si.mem,_,rfl,_,(oq hS6.enter b2.fine.cl.len (S.C.q.length:Int) (by omega) (by omega)).x,?_⟩;rintro lv w7 ⟨o7,g7,_⟩;rw [Int.toNat_natCast,adJ,Nat.min_eq_left (Nat.le_succ _),Nat.add_sub_cancel_left] at o7;obtain ⟨la,lc,rfl⟩:=ae o7;exact ⟨_,by exact ⟨rfl,rfl,rfl,rfl,trivial⟩,rfl,_,b2,_,_,_,_,_,_,hS6.ax g7⟩
end
theorem FV {b:bE} (h:b.W):nb b=b:=by
 unfold nb;rw [Nat.mod_eq_of_lt (Nat.lt_succ_of_le h.1),Nat.mod_eq_of_lt h.2]
theorem Ru {m m':MM} (hk:m.kind=2\/m.kind=9\/m.kind=10) (hd:oV (sV m)=some m'):m'.kind=m.kind:=by
 obtain ⟨ok',e⟩:=yT hd;unfold sV at e;split at e
 case isFalse=>subst e;exact absurd ok' (by decide)
 rw [FL] at e;unfold kG at e;obtain ⟨kd,q,p,b,s,c,vs,r,peer,seq⟩:=m;rcases hk with rfl | rfl | rfl
 ·have e:(dP (dn ([((2:Nat):Int)]++mf p))).1=m':=e
  rw [jQ (by decide),VC] at e;subst e;rfl
 ·have e:(dP (dn ([((9:Nat):Int)]++Ce r))).1=m':=e
  rw [jQ (by decide),VD] at e;subst e;rfl
 ·have e:(dP (dn ([((10:Nat):Int)]++([peer]++b32 seq)))).1=m':=e
  rw [jQ (by decide),Rc] at e;subst e;rfl
theorem uq {N n:Nat} {m m':MM} (h:MG (qP N) n m) (k:m.kind≠2) (hd:oV (sV m)=some m'):m'=EX m:=(Re h hd).elim (λ q=>(k q.1).elim) And.left
theorem aah (N:Nat):rQ (qP N) where
 fw:=λ {k b m} hk hb hd=>by
  rcases hk with rfl | rfl
  ·dsimp only [qP] at hd
   rw [uq (N:=N) (n:=0) (MG.fw (.inl rfl) hb.1) (λ e=>absurd (show (3:Int)=2 from e) (by decide)) hd];simp [EX,aP,FV hb]
  ·dsimp only [qP] at hd
   rw [uq (N:=N) (n:=0) (MG.fw (.inr rfl) hb.1) (λ e=>absurd (show (5:Int)=2 from e) (by decide)) hd];simp [EX,aP,FV hb]
 prom:=λ {b vs m} hb hl hv hd=>by
  have e:vs.map nv=vs:=by
   refine (List.map_congr_left λ v q=>?_).trans (List.map_id _);obtain ⟨_,h2,h3⟩:=hv v q;show (⟨v.slot%4294967296,nb v.b,v.c⟩:MV)=v;rw [Nat.mod_eq_of_lt (Nat.lt_trans h2 (by decide)),FV h3]
  dsimp only [qP] at hd;rw [uq (N:=N) (n:=0) (MG.promise hb.1 (λ v q=>⟨(hv v q).1,(hv v q).2.1⟩) hl) (λ e=>absurd (show (4:Int)=2 from e) (by decide)) hd];simp [EX,aP,FV hb,e]
 acc:=λ {b s c m} hb hs hc hd=>by
  dsimp only [qP] at hd;rw [uq (N:=N) (n:=0) (MG.accept hb.1 hs hc) (λ e=>absurd (show (6:Int)=2 from e) (by decide)) hd];simp [EX,aP,FV hb,Nat.mod_eq_of_lt (Nat.lt_trans hs (by decide:60<4294967296))]
 pK:=λ {b s m} hb hs hd=>by
  dsimp only [qP] at hd;rw [uq (N:=N) (n:=0) (MG.accepted hb.1 hs) (λ e=>absurd (show (7:Int)=2 from e) (by decide)) hd];simp [EX,aP,FV hb,Nat.mod_eq_of_lt (Nat.lt_trans hs (by decide:60<4294967296))]
 dec:=λ {s c m} hs hc hd=>by
  dsimp only [qP] at hd;rw [uq (N:=N) (n:=0) (MG.decide hs hc) (λ e=>absurd (show (8:Int)=2 from e) (by decide)) hd];simp [EX,aP,Nat.mod_eq_of_lt (Nat.lt_trans hs (by decide:60<4294967296))]
 rest:=λ hk hd=>Ru hk hd
end
end Go.Proofs.YtignemioillaiabGreat
