/- A shard at work (10): lanes laid anew. -/
import Derived.Test.YtignemioillaiabGreatG38
namespace Go.Proofs.YtignemioillaiabGreat
set_option maxHeartbeats 8000000
set_option maxRecDepth 100000
section
open Go Go.Conc
section
variable {Λ:aC} {w0 w w1 w':World} {b:Nat} {s:St} {T M D O I:Value} {ls:List La}
theorem QN.off {vo:Option Nat} {q:Value} {rs:List Ra} (h:QN w0 w q rs) (g:GB vo w w1) (h0:∀ y,vo=some y->q.ownBlock≠some y) (h1:∀ x∈rs,∀ y,vo=some y->x.2.1.ownBlock≠some y) (h2:∀ x∈rs,∀ y,vo=some y->x.2.2.ownBlock≠some y) (gw:GB none w0 w1):QN w0 w1 q rs:=⟨h.q.off g h0 gw,λ x hx=>(h.r x hx).off g (h1 x hx) (h2 x hx) gw⟩
theorem Sw.TS (h:Sw Λ w0 b s w T M D O I ls) {j:Nat} {nx nx':Int} {q q':Value} {rs rs':List Ra} (hl:ls[j]? = some (nx,q,rs)) (g:GB q.ownBlock w w1) (Q:QN w0 w1 q' rs') (n:∀ x,q'.ownBlock=some x->q.ownBlock=some x\/w.heap.size<=x) (sT:∀ x∈rs',∀ y,T.ownBlock=some y->x.2.1.ownBlock≠some y) (sD:∀ x∈rs',∀ y,D.ownBlock=some y->x.2.2.ownBlock≠some y) (hΛ:∀ x∈rs',x∈rs\/∀ y,x.2.1.ownBlock=some y\/x.2.2.ownBlock=some y->Λ y=none) (L:LN 62 2 w0 w' O (ls.set j (nx',q',rs')).length ((ls.set j (nx',q',rs')).map lN).flatten) (g2:GB O.ownBlock w1 w'):Sw Λ w0 b { s with O:=s.O.set j (nx',rs'.map (·.1)) } w' T M D O I (ls.set j (nx',q',rs')):=by
 have hm:=List.mem_of_getElem? hl;have hj:=(List.getElem?_eq_some_iff.1 hl).1;have hq:=h.sa.q _ hm;have ho:∀ x,q.ownBlock=some x->yL b T D O I ls x:=λ x hx=>.inr (.inr (.inr (.inr (.inr ⟨_,hm,hx⟩))))
 have gw:=h.Vi ho g;have mb:=h.bk hq.q (by decide) g;have t1:=h.sa.t.off g (bQ hq.q h.sa.t (by decide)) gw;have m1:=h.sa.m.off g (bQ hq.q h.sa.m (by decide)) gw;have d1:=h.sa.d.off g (bQ hq.q h.sa.d (by decide)) gw;have i1:=h.sa.i.off g (bQ hq.q h.sa.i (by decide)) gw;have o1:=h.sa.o.off g (bQ hq.q h.sa.o (by decide)) gw;have GL:GB none w0 w':=L.gb;have mb2:w'.heap[b]? = some (.cells (ik s T M D O I).toArray 55):=g2.get mb λ z=>by
  obtain ⟨c,hc⟩:=aD o1.own z.symm;exact df hc mb (by decide) rfl
 have ql:∀ k l,k≠j->ls[k]? = some l->QN w0 w' l.2.1 l.2.2:=λ k l hk hkl=>by
  have hlm:=List.mem_of_getElem? hkl;have hlq:=h.sa.q l hlm;have a1:QN w0 w1 l.2.1 l.2.2:=hlq.off g (h.sa.sQ j k _ l hk.symm hl hkl) (λ x hx=>bQ hq.q (hlq.r x hx).r (by decide)) (λ x hx=>bQ hq.q (hlq.r x hx).d (by decide)) gw;exact a1.off g2 (bQ o1 a1.q (by decide)) (λ x hx=>bQ o1 (a1.r x hx).r (by decide)) (λ x hx=>bQ o1 (a1.r x hx).d (by decide)) GL
 have Q2:QN w0 w' q' rs':=Q.off g2 (bQ o1 Q.q (by decide)) (λ x hx=>bQ o1 (Q.r x hx).r (by decide)) (λ x hx=>bQ o1 (Q.r x hx).d (by decide)) GL;have mem':∀ l∈ls.set j (nx',q',rs'),l=(nx',q',rs')\/∃ k,k≠j/\ls[k]? = some l:=λ l hl'=>by
  obtain ⟨k,hk⟩:=List.getElem?_of_mem hl';rw [iV hj] at hk;split at hk
  ·exact .inl (Option.some.inj hk).symm
  ·exact .inr ⟨k,by assumption,hk⟩
 refine ⟨mb2,h.nb,⟨t1.off g2 (bQ o1 t1 (by decide)) GL,m1.off g2 (bQ o1 m1 (by decide)) GL,d1.off g2 (bQ o1 d1 (by decide)) GL,L,i1.off g2 (bQ o1 i1 (by decide)) GL,λ l hl'=>?_,?_,λ l hl'=>?_,λ l hl'=>?_,λ i k l l' hik hi hk y hy he=>?_⟩,λ x o hx=>⟨?_,λ hs=>?_⟩,λ x o hx hr=>?_⟩
 ·rcases mem' l hl' with rfl | ⟨k,hk,hkl⟩
  ·exact Q2
  ·exact ql k l hk hkl
 ·show (ls.set j (nx',q',rs')).map Mo=s.O.set j (nx',rs'.map (·.1))
  rw [List.map_set,h.sa.core]
 ·rcases mem' l hl' with rfl | ⟨k,hk,hkl⟩
  ·exact sT
  ·exact h.sa.sT l (List.mem_of_getElem? hkl)
 ·rcases mem' l hl' with rfl | ⟨k,hk,hkl⟩
  ·exact sD
  ·exact h.sa.sD l (List.mem_of_getElem? hkl)
 ·rw [iV hj] at hi hk
  split at hi
  ·cases hi
   split at hk
   ·omega
   ·rcases n y hy with z | z
    ·exact h.sa.sQ j k _ l' (by omega) hl hk y z he
    ·have:=(h.sa.q l' (List.mem_of_getElem? hk)).q.lt he;omega
  ·split at hk
   ·cases hk
    rcases n y he with z | z
    ·exact h.sa.sQ i j l _ (by omega) hi hl y hy z
    ·have:=(h.sa.q l (List.mem_of_getElem? hi)).q.lt hy;omega
   ·exact h.sa.sQ i k l l' hik hi hk y hy he
 ·exact g2.get (h.Vh ho g x o hx) λ e=>(h.pr x o hx).2 (.inr (.inr (.inr (.inl e.symm))))
 ·rcases hs with hs | hs | hs | hs | hs | ⟨l,hl',hs⟩
  ·exact (h.pr x o hx).2 (.inl hs)
  ·exact (h.pr x o hx).2 (.inr (.inl hs))
  ·exact (h.pr x o hx).2 (.inr (.inr (.inl hs)))
  ·exact (h.pr x o hx).2 (.inr (.inr (.inr (.inl hs))))
  ·exact (h.pr x o hx).2 (.inr (.inr (.inr (.inr (.inl hs)))))
  ·rcases mem' l hl' with rfl | ⟨k,hk,hkl⟩
   ·rcases n x hs with z | z
    ·exact (h.pr x o hx).2 (ho x z)
    ·have:=ag (h.pr x o hx).1;omega
   ·exact (h.pr x o hx).2 (.inr (.inr (.inr (.inr (.inr ⟨l,List.mem_of_getElem? hkl,hs⟩)))))
 ·rcases hr with hr | ⟨l,hl',y,hy,hr⟩
  ·exact h.rd x o hx (.inl hr)
  ·rcases mem' l hl' with rfl | ⟨k,hk,hkl⟩
   ·rcases hΛ y hy with z | z
    ·exact h.rd x o hx (.inr ⟨_,hm,y,z,hr⟩)
    ·rw [z x hr] at hx;cases hx
   ·exact h.rd x o hx (.inr ⟨l,List.mem_of_getElem? hkl,y,hy,hr⟩)
theorem Sw.adh (h:Sw Λ w0 b s w T M D O I ls) {i':List Int} (L:LN 59 1 w0 w' I i'.length (i'.map λ i=>Value.int .u32 i)) (g:GB I.ownBlock w w'):Sw Λ w0 b { s with I:=i' } w' T M D O I ls:=by
 have ho:∀ x,I.ownBlock=some x->yL b T D O I ls x:=λ x hx=>.inr (.inr (.inr (.inr (.inl hx))))
 have gw:=h.Vi ho g;have mb:=h.bk h.sa.i (by decide) g;refine ⟨mb,h.nb,⟨h.sa.t.off g (bQ h.sa.i h.sa.t (by decide)) gw,h.sa.m.off g (bQ h.sa.i h.sa.m (by decide)) gw,h.sa.d.off g (bQ h.sa.i h.sa.d (by decide)) gw,h.sa.o.off g (bQ h.sa.i h.sa.o (by decide)) gw,L,λ l hl=>(h.sa.q l hl).off g (bQ h.sa.i (h.sa.q l hl).q (by decide)) (λ x hx=>bQ h.sa.i ((h.sa.q l hl).r x hx).r (by decide)) (λ x hx=>bQ h.sa.i ((h.sa.q l hl).r x hx).d (by decide)) gw,h.sa.core,h.sa.sT,h.sa.sD,h.sa.sQ⟩,λ x o hx=>⟨h.Vh ho g x o hx,(h.pr x o hx).2⟩,h.rd⟩
end
section
variable {Λ:aC} {w0 w:World} {b:Nat} {s:St}
theorem TT (sq:Int) (rs:List Ra):(rs.filter (gN sq)).map (·.1)=keepR sq (rs.map (·.1)):=by
 unfold keepR;rw [List.filter_map];rfl
theorem QJ (h:Sk Λ w0 b s w) (hk:uX s) (hz:∀ o∈s.O,o.2.length<=100000) {peer sq:Int} (h0:0<=peer):af Tryz.prog 63 #[Ptt b,.int .u8 peer,.int .u32 sq] w (λ v w'=>v=.tuple #[]/\Sk Λ w0 b (De s peer sq) w'):=by
 obtain ⟨j,rfl⟩:=Int.eq_ofNat_of_zero_le h0;have hol:=hk.ol;have jB:=hk.n4;refine aj ah mixed Tryz.func63 rfl rfl ?_;refine λ w1 b1 m1 g1 l1=>?_
 obtain ⟨hb,hu⟩:=h.box g1 m1 l1;obtain ⟨T,M,D,O,I,ls,h⟩:=hb;unfold De;refine ⟨_,_,h.mem,_,rfl,au (λ e=>?_) (λ e=>?_)⟩
 ·have e1:=of_decide_eq_true e
  rw [if_neg (by omega)];exact ⟨rfl,_,_,_,_,_,_,h.drop hu⟩
 ·have e1:=of_decide_eq_false e
  rw [if_pos (by omega),Int.toNat_natCast];obtain ⟨o,ho⟩:∃ o,s.O[j]? = some o:=⟨s.O[j]'(by omega),by simp [show j<s.O.length by omega]⟩;obtain ⟨l,hl,hlo⟩:=h.lane ho;have hll:=h.ll;obtain ⟨g,cap,cur,ev,hg,aR,hcut,hsz⟩:=h.sa.o.at (f:=lN) (λ _=>rfl) hl;subst ev;have hq:=h.sa.q l (List.mem_of_getElem? hl);obtain ⟨qa,qc,eq⟩:=ae hq.q.own;have Dh:dU s.O (j:Int)=o:=by unfold dU;rw [Int.toNat_natCast,ho];rfl
  have hz':=hz o (List.mem_of_getElem? ho);rw [Dh,<- hlo];have hrl:l.2.2.length<=100000:=by rw [<- hlo] at hz';simpa using hz'
  obtain ⟨nx,qv,rs⟩:=l;have eq:qv=.slice qa rs.length qc:=eq;subst eq;dsimp only at hq hrl;refine ⟨_,_,h.mem,_,rfl,⟨by omega,by omega⟩,?_⟩;have hc1:cur.toList[0+(j:Int).toNat*2+1]? = some (.slice qa rs.length qc):=iy hcut rfl (by decide);refine ⟨_,_,aR,.slice qa rs.length qc,hc1,_,WZ h.at hq hrl,?_⟩;rintro q' w2 ⟨Q,g2,n2⟩;obtain ⟨uV,tJ,rfl⟩:=ae Q.q.own;have hne:(Value.slice qa rs.length qc).ownBlock≠some g:=λ z=>bQ hq.q h.sa.o (by decide) g z rfl
  have Vj:w2.heap[g]? = some (.cells cur 62):=g2.get aR λ z=>hne z.symm
  have GL:GB none w0 w2:=Q.q.gb;have O2:=h.sa.o.off g2 (bQ hq.q h.sa.o (by decide)) GL;refine ⟨_,_,_,Vj,fJ rfl rfl (by rw [Array.length_toList];show 0+(j:Int).toNat*2+1<_;omega),rfl,λ w3 m3 g3=>?_⟩;have L3:=O2.set (f:=lN) (j:=1) (x':=(nx,.slice uV _ tJ,rs.filter (gN sq))) (λ _=>rfl) Vj hl (by decide) rfl m3 (by show 0+(j:Int).toNat*2+1=j*2+1;rw [Int.toNat_natCast,Nat.zero_add]) rfl rfl g3;have hmm:=List.mem_of_getElem? hl;have L3':LN 62 2 w0 w3 (.slice (some ⟨g,0,none⟩) ls.length cap) (ls.set j (nx,Value.slice uV (rs.filter (gN sq)).length tJ,rs.filter (gN sq))).length ((ls.set j (nx,Value.slice uV (rs.filter (gN sq)).length tJ,rs.filter (gN sq))).map lN).flatten:=by
   have:=L3;rw [List.length_set] at this |-;exact this
  have S:=h.TS hl g2 Q (λ x hx=>.inl (n2.symm.trans hx)) (λ x hx=>h.sa.sT _ hmm x (List.mem_filter.1 hx).1) (λ x hx=>h.sa.sD _ hmm x (List.mem_filter.1 hx).1) (λ x hx=>.inl (List.mem_filter.1 hx).1) L3' g3;rw [TT] at S;exact ⟨rfl,_,_,_,_,_,_,S.drop hu⟩
end
def BA (s:St) (q:bN):St:={ s with T:=yF s.T q.key q.hi,D:=yG s.D q.key q.hi,O:=s.O.set q.to.toNat ((dU s.O q.to).1+1,(dU s.O q.to).2++[Ay s.g q.to (dU s.O q.to).1 q.key q.hi s.T s.D]) }
theorem Oq {α:Type} (v1 v2:Value) (a b:List α):(([(v1,a),(v2,b)]:List (Value×List α)).map (·.2)).flatten=a++b:=by simp
theorem H7 {α:Type} (f:α->Int) (lo hi:Int) (l:List α):(sB f lo l).length<=l.length/\(sW f lo hi l).length<=l.length/\(sA f lo hi l).length<=l.length:=⟨List.length_filter_le _ _,List.length_filter_le _ _,List.length_filter_le _ _⟩
theorem aC.none {Λ:aC} {b x:Nat} {o o':Obj} (h:(Λ.add b o) x=none):(Λ.add b o') x=none:=by
 unfold aC.add at h |-;split at h
 ·cases h
 ·rename_i e;rw [if_neg e];exact h
section
variable {Λ:aC} {w0 w:World} {b:Nat} {s:St}
theorem KT (h:Sk Λ w0 b s w) (hk:uX s) (hT:s.T.length<=100000) (hD:s.D.length<=100000) {q:bN} (h3:0<=q.to) (h4:q.to<s.n) (hq4:(dU s.O q.to).2.length<=1000) (hnx:0<=(dU s.O q.to).1/\(dU s.O q.to).1<4294967295):af Tryz.prog 192 #[Ptt b,.agg q.cells.toArray] w (λ v w'=>v=.tuple #[]/\Sk Λ w0 b (BA s q) w'):=by
 obtain ⟨c,sq,k,key,v,hi,to⟩:=q;obtain ⟨j,rfl⟩:=Int.eq_ofNat_of_zero_le h3;dsimp only at h4 hq4 hnx;have jB:=hk.n4;have hol:=hk.ol;obtain ⟨o,ho⟩:∃ o,s.O[j]? = some o:=⟨s.O[j]'(by omega),by simp [show j<s.O.length by omega]⟩;have Dh:dU s.O (j:Int)=o:=by unfold dU;rw [Int.toNat_natCast,ho];rfl
 rw [Dh] at hq4 hnx;refine aj ah mixed Tryz.func192 rfl rfl ?_;refine λ w1 b1 m1 g1 l1=>?_
 have hs0:w0.heap.size<=w.heap.size:=by obtain ⟨_,_,_,_,_,_,h⟩:=h;exact h.gb.size
 obtain ⟨hb,hu⟩:=h.box g1 m1 l1;obtain ⟨T,M,D,O,I,ls,h⟩:=hb;have n1:w0.heap.size<=b1:=Nat.le_trans hs0 l1;obtain ⟨l,hl,hlo⟩:=h.lane ho;have hll:=h.ll;obtain ⟨g,cap,cur,ev,hg,aR,hcut,hsz⟩:=h.sa.o.at (f:=lN) (λ _=>rfl) hl;subst ev;obtain ⟨nx,qv,rs⟩:=l;obtain ⟨qa,qc,eq⟩:=ae (h.sa.q _ (List.mem_of_getElem? hl)).q.own;have eq:qv=.slice qa rs.length qc:=eq;subst eq;have enx:o.1=nx:=by rw [<- hlo]
 have Ee:o.2=rs.map (·.1):=by rw [<- hlo]
 have hc0:cur.toList[0+(j:Int).toNat*2+0]? = some (.int .u32 nx):=iy hcut rfl (by decide);refine ⟨by kernel_rfl,_,_,h.mem,_,rfl,_,_,h.at,.int .u8 j,rfl,⟨by omega,by omega⟩,?_⟩;refine ⟨by kernel_rfl,_,_,h.mem,_,rfl,_,_,h.at,.int .u8 j,rfl,_,_,aR,.int .u32 nx,hc0,_,_,h.at,.int .u64 key,rfl,_,_,h.at,.int .u64 hi,rfl,λ w2 b5 m5 g2 l2=>?_⟩;refine ⟨⟨g2.get h.at nofun,g2.get h.at nofun,g2.get aR nofun,g2.get h.at nofun,g2.get h.mem nofun,trivial⟩,_,_,_,m5,rfl,rfl,λ w3 m6 g3=>?_⟩;replace m6:w3.heap[b5]? = some (.cells (eO ⟨s.g,j,nx,key,hi,[],[]⟩ (.slice none 0 0) (.slice none 0 0)).toArray 78):=m6;have Zx:=h.qf l2;have n5:w0.heap.size<=b5:=Nat.le_trans h.gb.size l2;replace h:=h.box (g2.new g3 l2) m6 l2;clear aR hcut hsz hc0 m5 m6 g2 g3;obtain ⟨f1,f2,f3⟩:=H7 (λ x:Row=>x.key) key hi s.T;obtain ⟨e1,e2,e3⟩:=H7 (λ x:az=>x.key) key hi s.D;refine ⟨by kernel_rfl,_,_,h.mem,_,rfl,_,_,h.at,.int .u64 key,rfl,_,_,h.at,.int .u64 hi,rfl,_,GI h.sa.t.fz (Nat.le_trans hT (by decide)) key hi,?_⟩;rintro _ w4 ⟨v1,v2,v3,rfl,L1,L2,L3,sp⟩;obtain ⟨a1,c1,rfl⟩:=ae L1.own;obtain ⟨a2,c2,rfl⟩:=ae L2.own;obtain ⟨a3,c3,rfl⟩:=ae L3.own;have u2:∀ x,(Value.slice a2 (sW (λ x:Row=>x.key) key hi s.T).length c2).ownBlock=some x->(((Λ.add b1 _).add b5 _):aC) x=none:=λ x hx=>h.qf (L2.new x hx)
 replace L2:=L2.base h.gb;replace h:=h.ax L1.gb;refine λ w5 vb AQ g5 JO=>?_
 replace h:=h.ax g5;replace L2:=L2.ax g5;refine ⟨_,ED (xs:=[(_,sB (λ x:Row=>x.key) key s.T),(_,sA (λ x:Row=>x.key) key hi s.T)]) AQ ?_ (by rw [show eF _=_ from Oq _ _ _ _,List.length_append];omega) (by show 2<=100;decide),?_⟩
 ·intro x hx
  simp only [List.mem_cons,List.not_mem_nil,or_false] at hx;rcases hx with rfl | rfl
  ·exact (L1.ax g5).fz
  ·exact (L3.ax g5).fz
 intro T' w6 LT;rw [show eF [_,_]=_ from Oq _ _ _ _] at LT;have b2:∀ x,T'.ownBlock=some x->(Value.slice a2 (sW (λ x:Row=>x.key) key hi s.T).length c2).ownBlock≠some x:=λ x hx he=>by
  have:=LT.new x hx;have:=L2.lt he;omega
 obtain ⟨ta,tc,rfl⟩:=ae LT.own;refine ⟨_,_,_,LT.gb.get h.mem nofun,rfl,rfl,λ w7 m7 g7=>?_⟩;have Mt:w6.heap[b]? = _:=LT.gb.get h.mem nofun;replace L2:=(L2.ax LT.gb).bS g7 Mt (by decide) h.nb;replace h:=h.nQ (t':=yF s.T key hi) (LT.base h.gb) LT.gb.weak (λ x hx=>.inr (LT.new x hx)) m7 g7;refine ⟨_,_,_,h.at,rfl,rfl,λ w8 m8 g8=>?_⟩;replace m8:w8.heap[b5]? = some (.cells (eO ⟨s.g,j,nx,key,hi,sW (λ x:Row=>x.key) key hi s.T,[]⟩ (.slice a2 _ c2) (.slice none 0 0)).toArray 78):=m8;replace L2:=L2.bS g8 h.at (by decide) n5;replace h:=h.other Zx g8 m8 n5;clear m7 g7 m8 g8 Mt L1 L3 LT AQ g5 JO sp;refine ⟨by kernel_rfl,_,_,h.mem,_,rfl,_,_,h.at,.int .u64 key,rfl,_,_,h.at,.int .u64 hi,rfl,_,GJ h.sa.d.fz (Nat.le_trans hD (by decide)) key hi,?_⟩;rintro _ w4 ⟨v1,v4,v3,rfl,L1,L4,L3,sp⟩;obtain ⟨a1,c1,rfl⟩:=ae L1.own;obtain ⟨a4,c4,rfl⟩:=ae L4.own;obtain ⟨a3,c3,rfl⟩:=ae L3.own;have u4:∀ x,(Value.slice a4 (sW (λ x:az=>x.key) key hi s.D).length c4).ownBlock=some x->(((Λ.add b1 _).add b5 _):aC) x=none:=λ x hx=>h.qf (L4.new x hx)
 replace L4:=L4.base h.gb;replace h:=h.ax L1.gb;replace L2:=L2.ax L1.gb;refine λ w5 vb AQ g5 JO=>?_
 replace h:=h.ax g5;replace L2:=L2.ax g5;replace L4:=L4.ax g5;refine ⟨_,EE (xs:=[(_,sB (λ x:az=>x.key) key s.D),(_,sA (λ x:az=>x.key) key hi s.D)]) AQ ?_ (by rw [show eG _=_ from Oq _ _ _ _,List.length_append];omega) (by show 2<=100;decide),?_⟩
 ·intro x hx
  simp only [List.mem_cons,List.not_mem_nil,or_false] at hx;rcases hx with rfl | rfl
  ·exact (L1.ax g5).fz
  ·exact (L3.ax g5).fz
 intro D' w6 LD;rw [show eG [_,_]=_ from Oq _ _ _ _] at LD;have b4:∀ x,D'.ownBlock=some x->(Value.slice a4 (sW (λ x:az=>x.key) key hi s.D).length c4).ownBlock≠some x:=λ x hx he=>by
  have:=LD.new x hx;have:=L4.lt he;omega
 obtain ⟨da,dc,rfl⟩:=ae LD.own;refine ⟨_,_,_,LD.gb.get h.mem nofun,rfl,rfl,λ w7 m7 g7=>?_⟩;have Mt:w6.heap[b]? = _:=LD.gb.get h.mem nofun;replace L2:=(L2.ax LD.gb).bS g7 Mt (by decide) h.nb;replace L4:=(L4.ax LD.gb).bS g7 Mt (by decide) h.nb;replace h:=h.Oo (d':=yG s.D key hi) (LD.base h.gb) LD.gb.weak (λ x hx=>.inr (LD.new x hx)) m7 g7;refine ⟨_,_,_,h.at,rfl,rfl,λ w8 m8 g8=>?_⟩;replace m8:w8.heap[b5]? = some (.cells (eO (Ay s.g j nx key hi s.T s.D) (.slice a2 _ c2) (.slice a4 _ c4)).toArray 78):=m8;replace L2:=L2.bS g8 h.at (by decide) n5;replace L4:=L4.bS g8 h.at (by decide) n5;replace h:=h.other Zx g8 m8 n5;clear m7 g7 m8 g8 Mt L1 L3 LD AQ g5 JO sp;obtain ⟨g',cap',cur,ev,hg',aR,hcut,hsz⟩:=h.sa.o.at (f:=lN) (λ _=>rfl) hl;injection ev with ea _ ec;injection ea with ea;injection ea with ea;subst ea ec;have hq:=h.sa.q _ (List.mem_of_getElem? hl);dsimp only at hq;have hrl:rs.length<=1000:=by rw [Ee,List.length_map] at hq4;exact hq4
 have hc1:cur.toList[0+(j:Int).toNat*2+1]? = some (.slice qa rs.length qc):=iy hcut rfl (by decide);refine ⟨by kernel_rfl,_,_,aR,.slice qa rs.length qc,hc1,_,_,h.at,eO (Ay s.g j nx key hi s.T s.D) (.slice a2 _ c2) (.slice a4 _ c4),rfl,rfl,λ w9 b9 m9 g9 l9=>?_⟩;have AR:=hq.ax g9;refine ⟨⟨g9.get h.at nofun,g9.get aR nofun,trivial⟩,_,eO (Ay s.g j nx key hi s.T s.D) (.slice a2 _ c2) (.slice a4 _ c4),AR.q.own,⟨_,_,m9,rfl,rfl,rfl⟩,by omega,λ q' qm Zy g10 n10=>?_⟩;have L10:=AR.q.app Zy g10 n10;obtain ⟨uV,tJ,rfl⟩:=ae Zy;have Ot:=L10.gb;have tR:∀ x∈rs,qO w0 qm x:=λ x hx=>(AR.r x hx).off g10 (bQ AR.q (AR.r x hx).r (by decide)) (bQ AR.q (AR.r x hx).d (by decide)) Ot
 have r2:=(L2.ax g9).off g10 (bQ AR.q (L2.ax g9) (by decide)) Ot;have r4:=(L4.ax g9).off g10 (bQ AR.q (L4.ax g9) (by decide)) Ot;have Q10:QN w0 qm (.slice uV (rs.length+1) tJ) (rs++[(Ay s.g j nx key hi s.T s.D,.slice a2 (sW (λ x:Row=>x.key) key hi s.T).length c2,.slice a4 (sW (λ x:az=>x.key) key hi s.D).length c4)]):=by
  refine ⟨?_,λ x hx=>?_⟩
  ·rw [List.length_append,List.map_append,List.flatten_append]
   simpa using (show LN 78 7 w0 qm _ _ _ from L10)
  ·rcases List.mem_append.1 hx with hx | hx
   ·exact tR x hx
   ·rw [List.mem_singleton] at hx
    subst hx;exact ⟨r2,r4⟩
 have QK:qm.heap[g]? = some (.cells cur 62):=g10.get (g9.get aR nofun) λ z=>by
  obtain ⟨c',hc'⟩:=aD AR.q.own z.symm;exact df hc' (g9.get aR nofun) (by decide) rfl
 have O10:=(h.ax g9).sa.o.off g10 (bQ AR.q (h.ax g9).sa.o (by decide)) Ot;refine ⟨_,_,_,QK,fJ rfl rfl (by rw [Array.length_toList];show 0+(j:Int).toNat*2+1<_;omega),rfl,λ EF m11 g11=>?_⟩;have L11:=O10.set (f:=lN) (j:=1) (x':=(nx,.slice uV (rs.length+1) tJ,rs++[(Ay s.g j nx key hi s.T s.D,.slice a2 (sW (λ x:Row=>x.key) key hi s.T).length c2,.slice a4 (sW (λ x:az=>x.key) key hi s.D).length c4)])) (λ _=>rfl) QK hl (by decide) rfl m11 (by show 0+(j:Int).toNat*2+1=j*2+1;rw [Int.toNat_natCast,Nat.zero_add]) rfl rfl g11;generalize hrs:rs++[(Ay s.g j nx key hi s.T s.D,Value.slice a2 (sW (λ x:Row=>x.key) key hi s.T).length c2,Value.slice a4 (sW (λ x:az=>x.key) key hi s.D).length c4)]=rs' at *;rw [List.length_set] at L11;have S:=(h.ax g9).TS (nx':=nx) hl g10 Q10 (λ x hx=>n10.own x hx) (λ x hx=>?_) (λ x hx=>?_) (λ x hx=>?_) (by rw [List.length_set];exact L11) g11;rotate_left
 ·rw [<- hrs] at hx
  rcases List.mem_append.1 hx with hx | hx
  ·exact h.sa.sT _ (List.mem_of_getElem? hl) x hx
  ·rw [List.mem_singleton] at hx
   subst hx;exact b2
 ·rw [<- hrs] at hx
  rcases List.mem_append.1 hx with hx | hx
  ·exact h.sa.sD _ (List.mem_of_getElem? hl) x hx
  ·rw [List.mem_singleton] at hx
   subst hx;exact b4
 ·rw [<- hrs] at hx
  rcases List.mem_append.1 hx with hx | hx
  ·exact .inl hx
  ·rw [List.mem_singleton] at hx
   subst hx;exact .inr λ y hy=>hy.elim (λ z=>aC.none (u2 y z)) (λ z=>aC.none (u4 y z))
 have hl':(ls.set j (nx,Value.slice uV (rs.length+1) tJ,rs'))[j]? = some (nx,.slice uV (rs.length+1) tJ,rs'):=by rw [iV (by omega),if_pos rfl]
 obtain ⟨g',cap',cur',ev,hg',rM,hcut',hsz'⟩:=S.sa.o.at (f:=lN) (λ _=>rfl) hl';rw [List.length_set] at ev hsz';injection ev with ea _ ec;injection ea with ea;injection ea with ea;subst ea ec;have hc0:cur'.toList[0+(j:Int).toNat*2+0]? = some (.int .u32 nx):=iy hcut' rfl (by decide);refine ⟨_,_,rM,.int .u32 nx,hc0,⟨by omega,by omega⟩,_,_,_,rM,fJ rfl rfl (by rw [Array.length_toList];show 0+(j:Int).toNat*2+0<_;omega),rfl,λ Vk m12 g12=>?_⟩;have O11:=S.sa.o;rw [List.length_set] at O11;have L12:=(show LN 62 2 w0 EF (.slice (some ⟨g,0,none⟩) (ls.set j (nx,Value.slice uV (rs.length+1) tJ,rs')).length cap) (ls.set j (nx,Value.slice uV (rs.length+1) tJ,rs')).length _ by rw [List.length_set];exact O11).set (f:=lN) (j:=0) (x':=(nx+1,.slice uV (rs.length+1) tJ,rs')) (λ _=>rfl) rM hl' (by decide) rfl m12 (by show 0+(j:Int).toNat*2+0=j*2+0;rw [Int.toNat_natCast,Nat.zero_add]) rfl rfl g12;rw [List.length_set,List.length_set] at L12;have hmm:=List.mem_of_getElem? hl';have S2:=S.TS (nx':=nx+1) hl' (GB.refl _ _) (S.sa.q _ hmm) (λ x hx=>.inl hx) (S.sa.sT _ hmm) (S.sa.sD _ hmm) (λ x hx=>.inl hx) (by rw [List.length_set,List.length_set];exact L12) g12;have hfin:BA s ⟨c,sq,k,key,v,hi,j⟩={ s with T:=yF s.T key hi,D:=yG s.D key hi,O:=(s.O.set j (nx,rs'.map (·.1))).set j (nx+1,rs'.map (·.1)) }:=by
  unfold BA;dsimp only;rw [Dh,Int.toNat_natCast,List.set_set,enx,Ee,<- hrs,List.map_append];rfl
 rw [hfin];exact ⟨rfl,_,_,_,_,_,_,(S2.drop Zx).drop hu⟩
end
theorem aC.eq (Λ:aC) (b:Nat) (o:Obj):(Λ.add b o) b=some o:=by unfold aC.add;simp
theorem aC.ne {Λ:aC} {b x:Nat} {o:Obj} (h:x≠b):(Λ.add b o) x=Λ x:=by unfold aC.add;rw [if_neg h]
section
variable {Λ Λ':aC} {w0 w w':World} {b:Nat} {s:St}
theorem Sk.g (h:Sk Λ w0 b s w) {x:Nat} {o:Obj} (hx:Λ x=some o):w.heap[x]? = some o:=by obtain ⟨_,_,_,_,_,_,h⟩:=h;exact (h.pr x o hx).1
theorem Sk.sz (h:Sk Λ w0 b s w):w0.heap.size<=w.heap.size:=by obtain ⟨_,_,_,_,_,_,h⟩:=h;exact h.gb.size
theorem Sk.weak (h:Sk Λ' w0 b s w) (hw:∀ x o,Λ x=some o->Λ' x=some o):Sk Λ w0 b s w:=by
 obtain ⟨T,M,D,O,I,ls,h⟩:=h;exact ⟨T,M,D,O,I,ls,h.mem,h.nb,h.sa,λ x o hx=>h.pr x o (hw x o hx),λ x o hx=>h.rd x o (hw x o hx)⟩
theorem Sk.over (h:Sk Λ w0 b s w) {x t:Nat} {c:Array Value} {o':Obj} (hx:Λ x=some (.cells c t)) (g:GB (some x) w w') (m:w'.heap[x]? = some o') (hn:w0.heap.size<=x):Sk (Λ.add x o') w0 b s w':=by
 obtain ⟨T,M,D,O,I,ls,h⟩:=h;obtain ⟨Λ0,h0,e⟩:∃ Λ0:aC,Λ0 x=none/\Λ=Λ0.add x (.cells c t):=⟨λ y=>if y=x then none else Λ y,by simp,by
  funext y
  unfold aC.add;split
  ·rename_i e;rw [e];exact hx
  ·rename_i e;simp [e]⟩
 rw [e] at h;have h1:=h.other h0 g m hn;have e2:Λ.add x o'=Λ0.add x o':=by
  funext y
  rw [e];unfold aC.add;split <;> rfl
 rw [e2];exact ⟨T,M,D,O,I,ls,h1⟩
theorem wrap_u32 {x:Int} (h:0<=x/\x<4294967296):IntKind.u32.wrap x=x:=by
 show x%4294967296=x;omega
structure Di (s:St):Prop where
 t:s.T.length<=100000
 d:s.D.length<=90000
 q:∀ o∈s.O,o.2.length<=100/\0<=o.1/\o.1<4294967295
def yM (s:St) (q:bN) (p:az):St×az:=if gK s q=true then ({ BA { s with D:=jc s.D { p with k:=2 } } q with M:=iF s.M q.key q.hi q.to },{ p with k:=2 }) else ({ s with D:=jc s.D { p with k:=5 } },{ p with k:=5 })
end
end
end Go.Proofs.YtignemioillaiabGreat
