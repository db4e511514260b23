/- A shard at work (10): lanes laid anew. -/
import Derived.Test.YtignemioillaiaaGreatG37
namespace Go.Proofs.YtignemioillaiaaGreat
set_option maxHeartbeats 8000000
set_option maxRecDepth 100000
section
open Go Go.Conc
section
variable{Λ:aD}{w0 w w1 w':World}{b:Nat}{s:St}{T M D O I:Value}{ls:List La}
theorem QN.off{vo:Option Nat}{q:Value}{rs:List Ra}(h:QN w0 w q rs)(g:GB vo w w1)(h0:∀y,vo=some y->q.ownBlock≠some y)(h1:∀x∈rs,∀y,vo=some y->x.2.1.ownBlock≠some y)(h2:∀x∈rs,∀y,vo=some y->x.2.2.ownBlock≠some y)(gw:GB none w0 w1):QN w0 w1 q rs:=⟨h.q.off g h0 gw,λx hx=>(h.r x hx).off g (h1 x hx) (h2 x hx) gw⟩
theorem Sw.UQ(h:Sw Λ w0 b s w T M D O I ls){j:Nat}{nx nx':Int}{q q':Value}{rs rs':List Ra}(hl:ls[j]? = some (nx,q,rs))(g:GB q.ownBlock w w1)(Q:QN w0 w1 q' rs')(n:∀x,q'.ownBlock=some x->q.ownBlock=some x\/w.heap.size<=x)(sT:∀x∈rs',∀y,T.ownBlock=some y->x.2.1.ownBlock≠some y)(sD:∀x∈rs',∀y,D.ownBlock=some y->x.2.2.ownBlock≠some y)(hΛ:∀x∈rs',x∈rs\/∀y,x.2.1.ownBlock=some y\/x.2.2.ownBlock=some y->Λ y=none)(L:LN 103 2 w0 w' O (ls.set j (nx',q',rs')).length ((ls.set j (nx',q',rs')).map mr).flatten)(g2:GB O.ownBlock w1 w'):Sw Λ w0 b { s with O:=s.O.set j (nx',rs'.map (·.1)) } w' T M D O I (ls.set j (nx',q',rs')):=by
 have hm:=List.mem_of_getElem? hl;have hj:=(List.getElem?_eq_some_iff.1 hl).1;have hq:=h.sa.q _ hm;have ho:∀x,q.ownBlock=some x->zm b T D O I ls x:=λx hx=>.inr (.inr (.inr (.inr (.inr ⟨_,hm,hx⟩))))
 have gw:=h.Wj ho g;have mb:=h.bk hq.q (by decide) g;have t1:=h.sa.t.off g (bS hq.q h.sa.t (by decide)) gw;have m1:=h.sa.m.off g (bS hq.q h.sa.m (by decide)) gw;have d1:=h.sa.d.off g (bS hq.q h.sa.d (by decide)) gw;have i1:=h.sa.i.off g (bS hq.q h.sa.i (by decide)) gw;have o1:=h.sa.o.off g (bS hq.q h.sa.o (by decide)) gw;have H6:GB none w0 w':=L.gb;have mb2:w'.heap[b]? = some (.cells (iC s T M D O I).toArray 31):=g2.get mb λz=>by
  obtain⟨c,hc⟩:=ay o1.own z.symm;exact dw hc mb (by decide) rfl
 have ql:∀k l,k≠j->ls[k]? = some l->QN w0 w' l.2.1 l.2.2:=λk l hk hkl=>by
  have hlm:=List.mem_of_getElem? hkl;have hlq:=h.sa.q l hlm;have a1:QN w0 w1 l.2.1 l.2.2:=hlq.off g (h.sa.sQ j k _ l hk.symm hl hkl) (λx hx=>bS hq.q (hlq.r x hx).r (by decide)) (λx hx=>bS hq.q (hlq.r x hx).d (by decide)) gw;exact a1.off g2 (bS o1 a1.q (by decide)) (λx hx=>bS o1 (a1.r x hx).r (by decide)) (λx hx=>bS o1 (a1.r x hx).d (by decide)) H6
 have Q2:QN w0 w' q' rs':=Q.off g2 (bS o1 Q.q (by decide)) (λx hx=>bS o1 (Q.r x hx).r (by decide)) (λx hx=>bS o1 (Q.r x hx).d (by decide)) H6;have mem':∀l∈ls.set j (nx',q',rs'),l=(nx',q',rs')\/∃k,k≠j/\ls[k]? = some l:=λl hl'=>by
  obtain⟨k,hk⟩:=List.getElem?_of_mem hl';rw[jb hj]at hk;split at hk
  ·exact .inl (Option.some.inj hk).symm
  ·exact .inr ⟨k,by assumption,hk⟩
 refine⟨mb2,h.nb,⟨t1.off g2 (bS o1 t1 (by decide)) H6,m1.off g2 (bS o1 m1 (by decide)) H6,d1.off g2 (bS o1 d1 (by decide)) H6,L,i1.off g2 (bS o1 i1 (by decide)) H6,λl hl'=>?_,?_,λl hl'=>?_,λl hl'=>?_,λi k l l' hik hi hk y hy he=>?_⟩,λx o hx=>⟨?_,λhs=>?_⟩,λx o hx hr=>?_⟩
 ·rcases mem' l hl' with rfl|⟨k,hk,hkl⟩
  ·exact Q2
  ·exact ql k l hk hkl
 ·show(ls.set j (nx',q',rs')).map Nb=s.O.set j (nx',rs'.map (·.1))
  rw[List.map_set,h.sa.core]
 ·rcases mem' l hl' with rfl|⟨k,hk,hkl⟩
  ·exact sT
  ·exact h.sa.sT l (List.mem_of_getElem? hkl)
 ·rcases mem' l hl' with rfl|⟨k,hk,hkl⟩
  ·exact sD
  ·exact h.sa.sD l (List.mem_of_getElem? hkl)
 ·rw[jb hj]at hi hk
  split at hi
  ·cases hi
   split at hk
   ·omega
   ·rcases n y hy with z|z
    ·exact h.sa.sQ j k _ l' (by omega) hl hk y z he
    ·have:=(h.sa.q l' (List.mem_of_getElem? hk)).q.lt he;omega
  ·split at hk
   ·cases hk
    rcases n y he with z|z
    ·exact h.sa.sQ i j l _ (by omega) hi hl y hy z
    ·have:=(h.sa.q l (List.mem_of_getElem? hi)).q.lt hy;omega
   ·exact h.sa.sQ i k l l' hik hi hk y hy he
 ·exact g2.get (h.Wi ho g x o hx) λe=>(h.pr x o hx).2 (.inr (.inr (.inr (.inl e.symm))))
 ·rcases hs with hs|hs|hs|hs|hs|⟨l,hl',hs⟩
  ·exact(h.pr x o hx).2 (.inl hs)
  ·exact(h.pr x o hx).2 (.inr (.inl hs))
  ·exact(h.pr x o hx).2 (.inr (.inr (.inl hs)))
  ·exact(h.pr x o hx).2 (.inr (.inr (.inr (.inl hs))))
  ·exact(h.pr x o hx).2 (.inr (.inr (.inr (.inr (.inl hs)))))
  ·rcases mem' l hl' with rfl|⟨k,hk,hkl⟩
   ·rcases n x hs with z|z
    ·exact(h.pr x o hx).2 (ho x z)
    ·have:=ae (h.pr x o hx).1;omega
   ·exact(h.pr x o hx).2 (.inr (.inr (.inr (.inr (.inr ⟨l,List.mem_of_getElem? hkl,hs⟩)))))
 ·rcases hr with hr|⟨l,hl',y,hy,hr⟩
  ·exact h.rd x o hx (.inl hr)
  ·rcases mem' l hl' with rfl|⟨k,hk,hkl⟩
   ·rcases hΛ y hy with z|z
    ·exact h.rd x o hx (.inr ⟨_,hm,y,z,hr⟩)
    ·rw[z x hr]at hx;cases hx
   ·exact h.rd x o hx (.inr ⟨l,List.mem_of_getElem? hkl,y,hy,hr⟩)
theorem Sw.aeO(h:Sw Λ w0 b s w T M D O I ls){i':List Int}(L:LN 47 1 w0 w' I i'.length (i'.map λi=>Value.int .u32 i))(g:GB I.ownBlock w w'):Sw Λ w0 b { s with I:=i' } w' T M D O I ls:=by
 have ho:∀x,I.ownBlock=some x->zm b T D O I ls x:=λx hx=>.inr (.inr (.inr (.inr (.inl hx))))
 have gw:=h.Wj ho g;have mb:=h.bk h.sa.i (by decide) g;refine⟨mb,h.nb,⟨h.sa.t.off g (bS h.sa.i h.sa.t (by decide)) gw,h.sa.m.off g (bS h.sa.i h.sa.m (by decide)) gw,h.sa.d.off g (bS h.sa.i h.sa.d (by decide)) gw,h.sa.o.off g (bS h.sa.i h.sa.o (by decide)) gw,L,λl hl=>(h.sa.q l hl).off g (bS h.sa.i (h.sa.q l hl).q (by decide)) (λx hx=>bS h.sa.i ((h.sa.q l hl).r x hx).r (by decide)) (λx hx=>bS h.sa.i ((h.sa.q l hl).r x hx).d (by decide)) gw,h.sa.core,h.sa.sT,h.sa.sD,h.sa.sQ⟩,λx o hx=>⟨h.Wi ho g x o hx,(h.pr x o hx).2⟩,h.rd⟩
end
section
variable{Λ:aD}{w0 w:World}{b:Nat}{s:St}
theorem UR(sq:Int)(rs:List Ra):(rs.filter (gV sq)).map (·.1)=keepR sq (rs.map (·.1)):=by
 unfold keepR;rw[List.filter_map];rfl
theorem RA(h:Sk Λ w0 b s w)(hk:vR s)(hz:∀o∈s.O,o.2.length<=100000){peer sq:Int}(h0:0<=peer):ag Tryz.prog 46 #[Ptt b,.int .u8 peer,.int .u32 sq] w (λv w'=>v=.tuple #[]/\Sk Λ w0 b (vN s peer sq) w'):=by
 obtain⟨j,rfl⟩:=Int.eq_ofNat_of_zero_le h0;have hol:=hk.ol;have ja:=hk.n4;refine aj ah mixed Tryz.func46 rfl rfl ?_;refine λw1 b1 m1 g1 l1=>?_
 obtain⟨hb,hu⟩:=h.box g1 m1 l1;obtain⟨T,M,D,O,I,ls,h⟩:=hb;unfold vN;refine⟨_,_,h.mem,_,rfl,au (λe=>?_) (λe=>?_)⟩
 ·have e1:=of_decide_eq_true e
  rw[if_neg (by omega)];exact⟨rfl,_,_,_,_,_,_,h.drop hu⟩
 ·have e1:=of_decide_eq_false e
  rw[if_pos (by omega),Int.toNat_natCast];obtain⟨o,ho⟩:∃o,s.O[j]? = some o:=⟨s.O[j]'(by omega),by simp[show j<s.O.length by omega]⟩;obtain⟨l,hl,hlo⟩:=h.lane ho;have hll:=h.ll;obtain⟨g,cap,cur,ev,hg,aS,hcut,hsz⟩:=h.sa.o.at (f:=mr) (λ_=>rfl) hl;subst ev;have hq:=h.sa.q l (List.mem_of_getElem? hl);obtain⟨qa,qc,eq⟩:=af hq.q.own;have DK:bJ s.O (j:Int)=o:=by unfold bJ;rw[Int.toNat_natCast,ho];rfl
  have hz':=hz o (List.mem_of_getElem? ho);rw[DK,<-hlo];have hrl:l.2.2.length<=100000:=by rw[<-hlo]at hz';simpa using hz'
  obtain⟨nx,qv,rs⟩:=l;have eq:qv=.slice qa rs.length qc:=eq;subst eq;dsimp only at hq hrl;refine⟨_,_,h.mem,_,rfl,⟨by omega,by omega⟩,?_⟩;have hc1:cur.toList[0+(j:Int).toNat*2+1]? = some (.slice qa rs.length qc):=iF hcut rfl (by decide);refine⟨_,_,aS,.slice qa rs.length qc,hc1,_,X7 h.at hq hrl,?_⟩;rintro q' w2 ⟨Q,g2,n2⟩;obtain⟨vP,uu,rfl⟩:=af Q.q.own;have hne:(Value.slice qa rs.length qc).ownBlock≠some g:=λz=>bS hq.q h.sa.o (by decide) g z rfl
  have Wl:w2.heap[g]? = some (.cells cur 103):=g2.get aS λz=>hne z.symm
  have H6:GB none w0 w2:=Q.q.gb;have O2:=h.sa.o.off g2 (bS hq.q h.sa.o (by decide)) H6;refine⟨_,_,_,Wl,gp rfl rfl (by rw[Array.length_toList];show 0+(j:Int).toNat*2+1<_;omega),rfl,λw3 m3 g3=>?_⟩;have L3:=O2.set (f:=mr) (j:=1) (x':=(nx,.slice vP _ uu,rs.filter (gV sq))) (λ_=>rfl) Wl hl (by decide) rfl m3 (by show 0+(j:Int).toNat*2+1=j*2+1;rw[Int.toNat_natCast,Nat.zero_add]) rfl rfl g3;have hmm:=List.mem_of_getElem? hl;have L3':LN 103 2 w0 w3 (.slice (some ⟨g,0,none⟩) ls.length cap) (ls.set j (nx,Value.slice vP (rs.filter (gV sq)).length uu,rs.filter (gV sq))).length ((ls.set j (nx,Value.slice vP (rs.filter (gV sq)).length uu,rs.filter (gV sq))).map mr).flatten:=by
   have:=L3;rw[List.length_set]at this |-;exact this
  have S:=h.UQ hl g2 Q (λx hx=>.inl (n2.symm.trans hx)) (λx hx=>h.sa.sT _ hmm x (List.mem_filter.1 hx).1) (λx hx=>h.sa.sD _ hmm x (List.mem_filter.1 hx).1) (λx hx=>.inl (List.mem_filter.1 hx).1) L3' g3;rw[UR]at S;exact⟨rfl,_,_,_,_,_,_,S.drop hu⟩
end
def BZ(s:St)(q:bQ):St:={ s with T:=ze s.T q.key q.hi,D:=zf s.D q.key q.hi,O:=s.O.set q.to.toNat ((bJ s.O q.to).1+1,(bJ s.O q.to).2++[Be s.g q.to (bJ s.O q.to).1 q.key q.hi s.T s.D]) }
theorem O8{α:Type}(v1 v2:Value)(a b:List α):(([(v1,a),(v2,b)]:List (Value×List α)).map (·.2)).flatten=a++b:=by simp
theorem IQ{α:Type}(f:α->Int)(lo hi:Int)(l:List α):(sB f lo l).length<=l.length/\(sW f lo hi l).length<=l.length/\(sA f lo hi l).length<=l.length:=⟨List.length_filter_le _ _,List.length_filter_le _ _,List.length_filter_le _ _⟩
theorem aD.none{Λ:aD}{b x:Nat}{o o':Obj}(h:(Λ.add b o) x=none):(Λ.add b o') x=none:=by
 unfold aD.add at h |-;split at h
 ·cases h
 ·rename_i e;rw[if_neg e];exact h
section
variable{Λ:aD}{w0 w:World}{b:Nat}{s:St}
theorem LV(h:Sk Λ w0 b s w)(hk:vR s)(hT:s.T.length<=100000)(hD:s.D.length<=100000){q:bQ}(h3:0<=q.to)(h4:q.to<s.n)(hq4:(bJ s.O q.to).2.length<=1000)(hnx:0<=(bJ s.O q.to).1/\(bJ s.O q.to).1<4294967295):ag Tryz.prog 180 #[Ptt b,.agg q.cells.toArray] w (λv w'=>v=.tuple #[]/\Sk Λ w0 b (BZ s q) w'):=by
 obtain⟨c,sq,k,key,v,hi,to⟩:=q;obtain⟨j,rfl⟩:=Int.eq_ofNat_of_zero_le h3;dsimp only at h4 hq4 hnx;have ja:=hk.n4;have hol:=hk.ol;obtain⟨o,ho⟩:∃o,s.O[j]? = some o:=⟨s.O[j]'(by omega),by simp[show j<s.O.length by omega]⟩;have DK:bJ s.O (j:Int)=o:=by unfold bJ;rw[Int.toNat_natCast,ho];rfl
 rw[DK]at hq4 hnx;refine aj ah mixed Tryz.func180 rfl rfl ?_;refine λw1 b1 m1 g1 l1=>?_
 have hs0:w0.heap.size<=w.heap.size:=by obtain⟨_,_,_,_,_,_,h⟩:=h;exact h.gb.size
 obtain⟨hb,hu⟩:=h.box g1 m1 l1;obtain⟨T,M,D,O,I,ls,h⟩:=hb;have n1:w0.heap.size<=b1:=Nat.le_trans hs0 l1;obtain⟨l,hl,hlo⟩:=h.lane ho;have hll:=h.ll;obtain⟨g,cap,cur,ev,hg,aS,hcut,hsz⟩:=h.sa.o.at (f:=mr) (λ_=>rfl) hl;subst ev;obtain⟨nx,qv,rs⟩:=l;obtain⟨qa,qc,eq⟩:=af (h.sa.q _ (List.mem_of_getElem? hl)).q.own;have eq:qv=.slice qa rs.length qc:=eq;subst eq;have enx:o.1=nx:=by rw[<-hlo]
 have EC:o.2=rs.map (·.1):=by rw[<-hlo]
 have hc0:cur.toList[0+(j:Int).toNat*2+0]? = some (.int .u32 nx):=iF hcut rfl (by decide);refine⟨by kernel_rfl,_,_,h.mem,_,rfl,_,_,h.at,.int .u8 j,rfl,⟨by omega,by omega⟩,?_⟩;refine⟨by kernel_rfl,_,_,h.mem,_,rfl,_,_,h.at,.int .u8 j,rfl,_,_,aS,.int .u32 nx,hc0,_,_,h.at,.int .u64 key,rfl,_,_,h.at,.int .u64 hi,rfl,λw2 b5 m5 g2 l2=>?_⟩;refine⟨⟨g2.get h.at nofun,g2.get h.at nofun,g2.get aS nofun,g2.get h.at nofun,g2.get h.mem nofun,trivial⟩,_,_,_,m5,rfl,rfl,λw3 m6 g3=>?_⟩;replace m6:w3.heap[b5]? = some (.cells (dP ⟨s.g,j,nx,key,hi,[],[]⟩ (.slice none 0 0) (.slice none 0 0)).toArray 52):=m6;have hu5:=h.qM l2;have n5:w0.heap.size<=b5:=Nat.le_trans h.gb.size l2;replace h:=h.box (g2.new g3 l2) m6 l2;clear aS hcut hsz hc0 m5 m6 g2 g3;obtain⟨f1,f2,f3⟩:=IQ (λx:Row=>x.key) key hi s.T;obtain⟨e1,e2,e3⟩:=IQ (λx:aB=>x.key) key hi s.D;refine⟨by kernel_rfl,_,_,h.mem,_,rfl,_,_,h.at,.int .u64 key,rfl,_,_,h.at,.int .u64 hi,rfl,_,HY h.sa.t.fz (Nat.le_trans hT (by decide)) key hi,?_⟩;rintro _ w4 ⟨v1,v2,v3,rfl,L1,L2,L3,sp⟩;obtain⟨a1,c1,rfl⟩:=af L1.own;obtain⟨a2,c2,rfl⟩:=af L2.own;obtain⟨a3,c3,rfl⟩:=af L3.own;have u2:∀x,(Value.slice a2 (sW (λx:Row=>x.key) key hi s.T).length c2).ownBlock=some x->(((Λ.add b1 _).add b5 _):aD) x=none:=λx hx=>h.qM (L2.new x hx)
 replace L2:=L2.base h.gb;replace h:=h.ax L1.gb;refine λw5 vb Bp g5 Kr=>?_
 replace h:=h.ax g5;replace L2:=L2.ax g5;refine⟨_,E8 (xs:=[(_,sB (λx:Row=>x.key) key s.T),(_,sA (λx:Row=>x.key) key hi s.T)]) Bp ?_ (by rw[show eU _=_ from O8 _ _ _ _,List.length_append];omega) (by show 2<=100;decide),?_⟩
 ·intro x hx
  simp only[List.mem_cons,List.not_mem_nil,or_false]at hx;rcases hx with rfl|rfl
  ·exact(L1.ax g5).fz
  ·exact(L3.ax g5).fz
 intro T' w6 LT;rw[show eU [_,_]=_ from O8 _ _ _ _]at LT;have b2:∀x,T'.ownBlock=some x->(Value.slice a2 (sW (λx:Row=>x.key) key hi s.T).length c2).ownBlock≠some x:=λx hx he=>by
  have:=LT.new x hx;have:=L2.lt he;omega
 obtain⟨ta,tc,rfl⟩:=af LT.own;refine⟨_,_,_,LT.gb.get h.mem nofun,rfl,rfl,λw7 m7 g7=>?_⟩;have Nh:w6.heap[b]? = _:=LT.gb.get h.mem nofun;replace L2:=(L2.ax LT.gb).bV g7 Nh (by decide) h.nb;replace h:=h.oD (t':=ze s.T key hi) (LT.base h.gb) LT.gb.weak (λx hx=>.inr (LT.new x hx)) m7 g7;refine⟨_,_,_,h.at,rfl,rfl,λw8 m8 g8=>?_⟩;replace m8:w8.heap[b5]? = some (.cells (dP ⟨s.g,j,nx,key,hi,sW (λx:Row=>x.key) key hi s.T,[]⟩ (.slice a2 _ c2) (.slice none 0 0)).toArray 52):=m8;replace L2:=L2.bV g8 h.at (by decide) n5;replace h:=h.other hu5 g8 m8 n5;clear m7 g7 m8 g8 Nh L1 L3 LT Bp g5 Kr sp;refine⟨by kernel_rfl,_,_,h.mem,_,rfl,_,_,h.at,.int .u64 key,rfl,_,_,h.at,.int .u64 hi,rfl,_,HZ h.sa.d.fz (Nat.le_trans hD (by decide)) key hi,?_⟩;rintro _ w4 ⟨v1,v4,v3,rfl,L1,L4,L3,sp⟩;obtain⟨a1,c1,rfl⟩:=af L1.own;obtain⟨a4,c4,rfl⟩:=af L4.own;obtain⟨a3,c3,rfl⟩:=af L3.own;have u4:∀x,(Value.slice a4 (sW (λx:aB=>x.key) key hi s.D).length c4).ownBlock=some x->(((Λ.add b1 _).add b5 _):aD) x=none:=λx hx=>h.qM (L4.new x hx)
 replace L4:=L4.base h.gb;replace h:=h.ax L1.gb;replace L2:=L2.ax L1.gb;refine λw5 vb Bp g5 Kr=>?_
 replace h:=h.ax g5;replace L2:=L2.ax g5;replace L4:=L4.ax g5;refine⟨_,E9 (xs:=[(_,sB (λx:aB=>x.key) key s.D),(_,sA (λx:aB=>x.key) key hi s.D)]) Bp ?_ (by rw[show eX _=_ from O8 _ _ _ _,List.length_append];omega) (by show 2<=100;decide),?_⟩
 ·intro x hx
  simp only[List.mem_cons,List.not_mem_nil,or_false]at hx;rcases hx with rfl|rfl
  ·exact(L1.ax g5).fz
  ·exact(L3.ax g5).fz
 intro D' w6 LD;rw[show eX [_,_]=_ from O8 _ _ _ _]at LD;have b4:∀x,D'.ownBlock=some x->(Value.slice a4 (sW (λx:aB=>x.key) key hi s.D).length c4).ownBlock≠some x:=λx hx he=>by
  have:=LD.new x hx;have:=L4.lt he;omega
 obtain⟨da,dc,rfl⟩:=af LD.own;refine⟨_,_,_,LD.gb.get h.mem nofun,rfl,rfl,λw7 m7 g7=>?_⟩;have Nh:w6.heap[b]? = _:=LD.gb.get h.mem nofun;replace L2:=(L2.ax LD.gb).bV g7 Nh (by decide) h.nb;replace L4:=(L4.ax LD.gb).bV g7 Nh (by decide) h.nb;replace h:=h.O7 (d':=zf s.D key hi) (LD.base h.gb) LD.gb.weak (λx hx=>.inr (LD.new x hx)) m7 g7;refine⟨_,_,_,h.at,rfl,rfl,λw8 m8 g8=>?_⟩;replace m8:w8.heap[b5]? = some (.cells (dP (Be s.g j nx key hi s.T s.D) (.slice a2 _ c2) (.slice a4 _ c4)).toArray 52):=m8;replace L2:=L2.bV g8 h.at (by decide) n5;replace L4:=L4.bV g8 h.at (by decide) n5;replace h:=h.other hu5 g8 m8 n5;clear m7 g7 m8 g8 Nh L1 L3 LD Bp g5 Kr sp;obtain⟨g',cap',cur,ev,hg',aS,hcut,hsz⟩:=h.sa.o.at (f:=mr) (λ_=>rfl) hl;injection ev with ea _ ec;injection ea with ea;injection ea with ea;subst ea ec;have hq:=h.sa.q _ (List.mem_of_getElem? hl);dsimp only at hq;have hrl:rs.length<=1000:=by rw[EC,List.length_map]at hq4;exact hq4
 have hc1:cur.toList[0+(j:Int).toNat*2+1]? = some (.slice qa rs.length qc):=iF hcut rfl (by decide);refine⟨by kernel_rfl,_,_,aS,.slice qa rs.length qc,hc1,_,_,h.at,dP (Be s.g j nx key hi s.T s.D) (.slice a2 _ c2) (.slice a4 _ c4),rfl,rfl,λw9 b9 m9 g9 l9=>?_⟩;have Bq:=hq.ax g9;refine⟨⟨g9.get h.at nofun,g9.get aS nofun,trivial⟩,_,dP (Be s.g j nx key hi s.T s.D) (.slice a2 _ c2) (.slice a4 _ c4),Bq.q.own,⟨_,_,m9,rfl,rfl,rfl⟩,by omega,λq' oN aaD g10 n10=>?_⟩;have L10:=Bq.q.app aaD g10 n10;obtain⟨vP,uu,rfl⟩:=af aaD;have O9:=L10.gb;have tR:∀x∈rs,rH w0 oN x:=λx hx=>(Bq.r x hx).off g10 (bS Bq.q (Bq.r x hx).r (by decide)) (bS Bq.q (Bq.r x hx).d (by decide)) O9
 have r2:=(L2.ax g9).off g10 (bS Bq.q (L2.ax g9) (by decide)) O9;have r4:=(L4.ax g9).off g10 (bS Bq.q (L4.ax g9) (by decide)) O9;have Q10:QN w0 oN (.slice vP (rs.length+1) uu) (rs++[(Be s.g j nx key hi s.T s.D,.slice a2 (sW (λx:Row=>x.key) key hi s.T).length c2,.slice a4 (sW (λx:aB=>x.key) key hi s.D).length c4)]):=by
  refine⟨?_,λx hx=>?_⟩
  ·rw[List.length_append,List.map_append,List.flatten_append]
   simpa using(show LN 52 7 w0 oN _ _ _ from L10)
  ·rcases List.mem_append.1 hx with hx|hx
   ·exact tR x hx
   ·rw[List.mem_singleton]at hx
    subst hx;exact⟨r2,r4⟩
 have RB:oN.heap[g]? = some (.cells cur 103):=g10.get (g9.get aS nofun) λz=>by
  obtain⟨c',hc'⟩:=ay Bq.q.own z.symm;exact dw hc' (g9.get aS nofun) (by decide) rfl
 have O10:=(h.ax g9).sa.o.off g10 (bS Bq.q (h.ax g9).sa.o (by decide)) O9;refine⟨_,_,_,RB,gp rfl rfl (by rw[Array.length_toList];show 0+(j:Int).toNat*2+1<_;omega),rfl,λCO m11 g11=>?_⟩;have L11:=O10.set (f:=mr) (j:=1) (x':=(nx,.slice vP (rs.length+1) uu,rs++[(Be s.g j nx key hi s.T s.D,.slice a2 (sW (λx:Row=>x.key) key hi s.T).length c2,.slice a4 (sW (λx:aB=>x.key) key hi s.D).length c4)])) (λ_=>rfl) RB hl (by decide) rfl m11 (by show 0+(j:Int).toNat*2+1=j*2+1;rw[Int.toNat_natCast,Nat.zero_add]) rfl rfl g11;generalize hrs:rs++[(Be s.g j nx key hi s.T s.D,Value.slice a2 (sW (λx:Row=>x.key) key hi s.T).length c2,Value.slice a4 (sW (λx:aB=>x.key) key hi s.D).length c4)]=rs' at *;rw[List.length_set]at L11;have S:=(h.ax g9).UQ (nx':=nx) hl g10 Q10 (λx hx=>n10.own x hx) (λx hx=>?_) (λx hx=>?_) (λx hx=>?_) (by rw[List.length_set];exact L11) g11;rotate_left
 ·rw[<-hrs]at hx
  rcases List.mem_append.1 hx with hx|hx
  ·exact h.sa.sT _ (List.mem_of_getElem? hl) x hx
  ·rw[List.mem_singleton]at hx
   subst hx;exact b2
 ·rw[<-hrs]at hx
  rcases List.mem_append.1 hx with hx|hx
  ·exact h.sa.sD _ (List.mem_of_getElem? hl) x hx
  ·rw[List.mem_singleton]at hx
   subst hx;exact b4
 ·rw[<-hrs]at hx
  rcases List.mem_append.1 hx with hx|hx
  ·exact .inl hx
  ·rw[List.mem_singleton]at hx
   subst hx;exact .inr λy hy=>hy.elim (λz=>aD.none (u2 y z)) (λz=>aD.none (u4 y z))
 have hl':(ls.set j (nx,Value.slice vP (rs.length+1) uu,rs'))[j]? = some (nx,.slice vP (rs.length+1) uu,rs'):=by rw[jb (by omega),if_pos rfl]
 obtain⟨g',cap',cur',ev,hg',sP,hcut',hsz'⟩:=S.sa.o.at (f:=mr) (λ_=>rfl) hl';rw[List.length_set]at ev hsz';injection ev with ea _ ec;injection ea with ea;injection ea with ea;subst ea ec;have hc0:cur'.toList[0+(j:Int).toNat*2+0]? = some (.int .u32 nx):=iF hcut' rfl (by decide);refine⟨_,_,sP,.int .u32 nx,hc0,⟨by omega,by omega⟩,_,_,_,sP,gp rfl rfl (by rw[Array.length_toList];show 0+(j:Int).toNat*2+0<_;omega),rfl,λWm m12 g12=>?_⟩;have O11:=S.sa.o;rw[List.length_set]at O11;have L12:=(show LN 103 2 w0 CO (.slice (some ⟨g,0,none⟩) (ls.set j (nx,Value.slice vP (rs.length+1) uu,rs')).length cap) (ls.set j (nx,Value.slice vP (rs.length+1) uu,rs')).length _ by rw[List.length_set];exact O11).set (f:=mr) (j:=0) (x':=(nx+1,.slice vP (rs.length+1) uu,rs')) (λ_=>rfl) sP hl' (by decide) rfl m12 (by show 0+(j:Int).toNat*2+0=j*2+0;rw[Int.toNat_natCast,Nat.zero_add]) rfl rfl g12;rw[List.length_set,List.length_set]at L12;have hmm:=List.mem_of_getElem? hl';have S2:=S.UQ (nx':=nx+1) hl' (GB.refl _ _) (S.sa.q _ hmm) (λx hx=>.inl hx) (S.sa.sT _ hmm) (S.sa.sD _ hmm) (λx hx=>.inl hx) (by rw[List.length_set,List.length_set];exact L12) g12;have hfin:BZ s ⟨c,sq,k,key,v,hi,j⟩={ s with T:=ze s.T key hi,D:=zf s.D key hi,O:=(s.O.set j (nx,rs'.map (·.1))).set j (nx+1,rs'.map (·.1)) }:=by
  unfold BZ;dsimp only;rw[DK,Int.toNat_natCast,List.set_set,enx,EC,<-hrs,List.map_append];rfl
 rw[hfin];exact⟨rfl,_,_,_,_,_,_,(S2.drop hu5).drop hu⟩
end
theorem aD.eq(Λ:aD)(b:Nat)(o:Obj):(Λ.add b o) b=some o:=by unfold aD.add;simp
theorem aD.ne{Λ:aD}{b x:Nat}{o:Obj}(h:x≠b):(Λ.add b o) x=Λ x:=by unfold aD.add;rw[if_neg h]
section
variable{Λ Λ':aD}{w0 w w':World}{b:Nat}{s:St}
theorem Sk.g(h:Sk Λ w0 b s w){x:Nat}{o:Obj}(hx:Λ x=some o):w.heap[x]? = some o:=by obtain⟨_,_,_,_,_,_,h⟩:=h;exact(h.pr x o hx).1
theorem Sk.sz(h:Sk Λ w0 b s w):w0.heap.size<=w.heap.size:=by obtain⟨_,_,_,_,_,_,h⟩:=h;exact h.gb.size
theorem Sk.weak(h:Sk Λ' w0 b s w)(hw:∀x o,Λ x=some o->Λ' x=some o):Sk Λ w0 b s w:=by
 obtain⟨T,M,D,O,I,ls,h⟩:=h;exact⟨T,M,D,O,I,ls,h.mem,h.nb,h.sa,λx o hx=>h.pr x o (hw x o hx),λx o hx=>h.rd x o (hw x o hx)⟩
theorem Sk.over(h:Sk Λ w0 b s w){x t:Nat}{c:Array Value}{o':Obj}(hx:Λ x=some (.cells c t))(g:GB (some x) w w')(m:w'.heap[x]? = some o')(hn:w0.heap.size<=x):Sk (Λ.add x o') w0 b s w':=by
 obtain⟨T,M,D,O,I,ls,h⟩:=h;obtain⟨Λ0,h0,e⟩:∃Λ0:aD,Λ0 x=none/\Λ=Λ0.add x (.cells c t):=⟨λy=>if y=x then none else Λ y,by simp,by
  funext y
  unfold aD.add;split
  ·rename_i e;rw[e];exact hx
  ·rename_i e;simp[e]⟩
 rw[e]at h;have h1:=h.other h0 g m hn;have e2:Λ.add x o'=Λ0.add x o':=by
  funext y
  rw[e];unfold aD.add;split<;>rfl
 rw[e2];exact⟨T,M,D,O,I,ls,h1⟩
theorem wrap_u32{x:Int}(h:0<=x/\x<4294967296):IntKind.u32.wrap x=x:=by
 show x%4294967296=x;omega
structure DN(s:St):Prop where
 t:s.T.length<=100000
 d:s.D.length<=90000
 q:∀o∈s.O,o.2.length<=100/\0<=o.1/\o.1<4294967295
def zn(s:St)(q:bQ)(p:aB):St×aB:=if gT s q=true then({ BZ { s with D:=ji s.D { p with k:=2 } } q with M:=iL s.M q.key q.hi q.to },{ p with k:=2 })else({ s with D:=ji s.D { p with k:=5 } },{ p with k:=5 })
end
theorem xx{α:Type}{P:α->Bool}{l:List α}(h:∀x∈l,P x=true):l.filter P=l:=List.filter_eq_self.2 h
theorem rq{α:Type}{P:α->Bool}{l:List α}(h:∀x∈l,P x=false):l.filter P=[]:=by
 rw[List.filter_eq_nil_iff];intro x hx;rw[h x hx];simp
theorem RD{α:Type}{f:α->Int}:∀{l:List α},Bc f l->l.take (dU f l)=l.filter (λx=>decide (f x<0))/\l.drop (dU f l)=l.filter (λx=>decide (0<=f x)):=by
 intro l h;obtain⟨h1,h2⟩:=tQ f l h;have a1:∀x∈l.take (dU f l),f x<0:=by
  intro x hx;obtain⟨t,ht,rfl⟩:=List.getElem_of_mem hx;rw[List.length_take]at ht;exact h1 t _ (by omega) (by rw[List.getElem_take];exact List.getElem?_eq_getElem (by omega))
 have a2:∀x∈l.drop (dU f l),0<=f x:=by
  intro x hx;obtain⟨t,ht,rfl⟩:=List.getElem_of_mem hx;exact h2 (dU f l+t) _ (by omega) (by rw[List.getElem_drop];exact List.getElem?_eq_getElem _)
 constructor
 ·conv=>rhs;rw[<-List.take_append_drop (dU f l) l]
  rw[List.filter_append,xx (λx hx=>by simpa using a1 x hx),rq (λx hx=>by have:=a2 x hx;simp;omega),List.append_nil]
 ·conv=>rhs;rw[<-List.take_append_drop (dU f l) l]
  rw[List.filter_append,rq (λx hx=>by have:=a1 x hx;simp;omega),xx (λx hx=>by simpa using a2 x hx),List.nil_append]
theorem Kt{α:Type}{f:α->Int}{l:List α}{q:α}(h:Bc f l)(hu:∀(i j:Nat) (x y:α),i<j->l[i]? = some x->l[j]? = some y->0<=f x->0<f y) :
 (if nK f l then l.set (dU f l) q else kE l (dU f l) q)=l.filter (λx=>decide (f x<0))++q::l.filter (λx=>decide (0<f x)):=by
 obtain⟨t1,t2⟩:=RD h;cases hh:nK f l with
 |true =>
  obtain⟨x,hx,h0⟩:=yg hh;have hlt:=(List.getElem?_eq_some_iff.1 hx).1;have e2:l.drop (dU f l+1)=l.filter (λx=>decide (0<f x)):=by
   have d:l.drop (dU f l)=x::l.drop (dU f l+1):=by
    rw[List.drop_eq_getElem_cons hlt,(List.getElem?_eq_some_iff.1 hx).2]
   have a:∀y∈l.drop (dU f l+1),0<f y:=by
    intro y hy;obtain⟨t,ht,rfl⟩:=List.getElem_of_mem hy;exact hu (dU f l) (dU f l+1+t) x _ (by omega) hx (by rw[List.getElem_drop];exact List.getElem?_eq_getElem _) (by omega)
   have b:∀y∈l.take (dU f l),f y<0:=by
    intro y hy;rw[t1]at hy;simpa using(List.mem_filter.1 hy).2
   conv=>rhs;rw[<-List.take_append_drop (dU f l) l,d]
   rw[List.filter_append,List.filter_cons,rq (λy hy=>by have:=b y hy;simp;omega),xx (λy hy=>by simpa using a y hy),h0];simp
  rw[if_pos rfl,List.set_eq_take_append_cons_drop,if_pos hlt,t1,e2]
 |false =>
  have e2:l.drop (dU f l)=l.filter (λx=>decide (0<f x)):=by
   rw[t2];apply List.filter_congr
   intro x hx;obtain⟨t,ht,rfl⟩:=List.getElem_of_mem hx;obtain⟨h1,h2⟩:=tQ f l h;by_cases hz:f l[t]=0
   ·exfalso
    have hge:dU f l<=t:=by
     rcases Nat.lt_or_ge t (dU f l)with hlt|hge
     ·have:=h1 t _ hlt (List.getElem?_eq_getElem ht);omega
     ·exact hge
    have hp:dU f l<l.length:=by omega
    have hy:=List.getElem?_eq_getElem hp;have h0:=h2 _ _ (Nat.le_refl _) hy;have hnz:f l[dU f l]≠0:=by
     intro e;unfold nK at hh;rw[hy]at hh;simp[e]at hh
    rcases Nat.lt_or_eq_of_le hge with hlt|heq
    ·have:=hu (dU f l) t _ _ hlt hy (List.getElem?_eq_getElem ht) h0
     omega
    ·exact hnz (by simpa[heq]using hz)
   ·by_cases hp:0<=f l[t]
    ·have:0<f l[t]:=by omega
     simp[hp,this]
    ·have:¬0<f l[t]:=by omega
     simp[hp,this]
  rw[if_neg (by simp),kE,t1,e2]
theorem X8{T:List Row}(h:gJ T)(key:Int):∀(i j:Nat) (x y:Row),i<j->T[i]? = some x->T[j]? = some y->0<=fZ x.key key->0<fZ y.key key:=by
 intro i j x y hij hx hy h0;have:=BV h hij hx hy;have a:¬fZ x.key key<0:=by omega
 rw[uO]at a;have b:¬fZ y.key key<0:=by rw[uO];omega
 have c:fZ y.key key≠0:=by rw[Ne,mG];omega
 omega
theorem X9{D:List aB}(h:iN D)(q:aB):∀(i j:Nat) (x y:aB),i<j->D[i]? = some x->D[j]? = some y->0<=jh x q->0<jh y q:=by
 intro i j x y hij hx hy h0;have:=BV h hij hx hy;have a:¬jh x q<0:=by omega
 rw[BU]at a;have b:¬jh y q<0:=by rw[BU];omega
 have c:jh y q≠0:=by rw[Ne,XM];omega
 omega
theorem Gj{a b:Int}:0<fZ a b↔b<a:=by
 unfold fZ;split
 ·simp;omega
 ·split<;>omega
theorem Ya{a b:aB}:0<jh a b↔b.key<a.key\/b.key=a.key/\b.c<a.c:=by
 unfold jh MZ;split
 ·rename_i h
  rw[mG]at h;rw[Gj];omega
 ·rename_i h
  rw[mG]at h;rw[Gj];omega
theorem qy{a b:aB}:ahead a b=true↔a.key<b.key\/a.key=b.key/\a.c<b.c:=by simp[ahead]
def Ku(D:List aB)(r:aB):List aB:=D.filter (λx=>ahead x r)++r::D.filter (λx=>ahead r x)
theorem Kv{D:List aB}(h:iN D)(r:aB):ji D r=Ku D r:=by
 unfold ji Ku;rw[Kt (VU h r) (X9 h r)];congr 1
 ·apply List.filter_congr;intro x _
  rw[Bool.eq_iff_iff,qy,decide_eq_true_iff,BU]
 ·congr 1
  apply List.filter_congr;intro x _
  rw[Bool.eq_iff_iff,qy,decide_eq_true_iff,Ya]
def Pb(T:List Row)(r:Row):List Row:=T.filter (λx=>decide (x.key<r.key))++r::T.filter (λx=>decide (r.key<x.key))
theorem UT{T:List Row}(h:gJ T)(key v:Int):(if kU T key then T.set (tT T key) ⟨key,v⟩else kE T (tT T key) ⟨key,v⟩)=Pb T ⟨key,v⟩:=by
 unfold Pb;rw[Kt (VT h key) (X8 h key)];congr 1
 ·apply List.filter_congr;intro x _
  rw[Bool.eq_iff_iff,decide_eq_true_iff,decide_eq_true_iff,uO]
 ·congr 1
  apply List.filter_congr;intro x _
  rw[Bool.eq_iff_iff,decide_eq_true_iff,decide_eq_true_iff,Gj]
theorem gJ.le{T:List Row}(h:gJ T):T.Pairwise (λa b=>a.key<=b.key):=h.imp (λh=>by omega)
theorem iN.le{D:List aB}(h:iN D):D.Pairwise (λa b=>a.key<=b.key):=h.imp (λh=>by omega)
theorem RF{D:List aB}(h:iN D)(r:aB):iN (Ku D r):=by
 unfold Ku iN;rw[List.pairwise_append,List.pairwise_cons];refine⟨h.sublist List.filter_sublist,⟨λx hx=>?_,h.sublist List.filter_sublist⟩,λx hx y hy=>?_⟩
 ·exact qy.1 (List.mem_filter.1 hx).2
 ·have a:=qy.1 (List.mem_filter.1 hx).2
  rcases List.mem_cons.1 hy with rfl|hy
  ·exact a
  ·have b:=qy.1 (List.mem_filter.1 hy).2
   omega
theorem H7{T:List Row}(h:gJ T)(r:Row):gJ (Pb T r):=by
 unfold Pb gJ;rw[List.pairwise_append,List.pairwise_cons];refine⟨h.sublist List.filter_sublist,⟨λx hx=>?_,h.sublist List.filter_sublist⟩,λx hx y hy=>?_⟩
 ·simpa using(List.mem_filter.1 hx).2
 ·have a:x.key<r.key:=by simpa using(List.mem_filter.1 hx).2
  rcases List.mem_cons.1 hy with rfl|hy
  ·exact a
  ·have b:r.key<y.key:=by simpa using(List.mem_filter.1 hy).2
   omega
theorem UU(D:List aB)(r:aB)(h:iN D):(Ku D r).length<=D.length+1:=by
 rw[<-Kv h];unfold ji;split
 ·simp
 ·rw[gU];omega
theorem Wn{α:Type}{f:α->Int}{lo:Int}{l:List α}{x:α}(h:x∈sB f lo l):f x<lo:=by unfold sB at h;simpa using(List.mem_filter.1 h).2
theorem Wo{α:Type}{f:α->Int}{lo hi:Int}{l:List α}{x:α}(h:x∈sA f lo hi l):hi<f x:=by
 unfold sA at h;have:=(List.mem_filter.1 h).2;simp at this;exact this.2
theorem Kw:∀{t:List Pc} {p:Pc},vz p.f p.g t->∀(i:Nat) (x y:Pc),(p::t)[i+1]? = some x->(p::t)[i]? = some y->x.g<4/\y.f<x.f/\y.g≠x.g
 | [],p,_,i,x,y,hx,_=>by simp at hx
 |q::t,p,h,i,x,y,hx,hy=>by
  obtain⟨h1,h2,h3,h4,h5,h6⟩:=h;cases i with
  |zero=>simp at hx hy;subst hx;subst hy;exact⟨h5,h1,h3⟩
  |succ i=>exact Kw h6 i x y (by simpa using hx) (by simpa using hy)
theorem Fa{m:List Pc}(h:Can m)(hl:m.length<=1000):lL m=true:=by
 cases m with
 |nil=>exact h.elim
 |cons p t =>
  obtain⟨h1,h2,h3,h4⟩:=h;have ha:=Kw (p:=p) (t:=t) (by rw[h1];exact h4);unfold lL;simp only[Bool.and_eq_true,decide_eq_true_eq,List.all_eq_true,List.mem_range];refine⟨⟨⟨by simp,hl⟩,by simp[h1]⟩,λi hi=>?_⟩;unfold IJ;rw[List.getElem?_eq_getElem hi];cases i with
  |zero=>simp[h3]
  |succ i =>
   obtain⟨a1,a2,a3⟩:=ha i _ _ (List.getElem?_eq_getElem hi) (List.getElem?_eq_getElem (by omega));simp only[Nat.add_sub_cancel];rw[List.getElem?_eq_getElem (by omega)];simp only[Bool.and_eq_true,decide_eq_true_eq,Bool.or_eq_true,Bool.not_eq_true',beq_eq_false_iff_ne];exact⟨a1,.inr ⟨a2,a3⟩⟩
theorem Yb{T:List Row}(h:gJ T)(key v:Int):gJ (oD T key v)/\(oD T key v).length<=T.length+1:=by
 have e:=UT h key v;unfold oD;cases hh:kU T key with
 |true =>
  rw[hh]at e;simp only[if_true]at e |-;exact⟨e▸H7 h _,by simp⟩
 |false =>
  rw[hh]at e;have nf:¬(false=true):=by simp
  rw[if_neg nf]at e |-;split
  ·exact⟨h,by omega⟩
  ·exact⟨e▸H7 h _,by rw[gU];omega⟩
theorem Yc{T:List Row}(h:gJ T)(key:Int):gJ (xu T key)/\(xu T key).length<=T.length:=by
 unfold xu;split
 ·exact⟨h.sublist (List.eraseIdx_sublist _ _),(List.eraseIdx_sublist _ _).length_le⟩
 ·exact⟨h,Nat.le_refl _⟩
theorem Ni{D:List aB}(h:iN D)(r:aB):iN (ji D r)/\(ji D r).length<=D.length+1:=by
 rw[Kv h];exact⟨RF h r,UU D r h⟩
def inL{α:Type}(f:α->Int)(lo hi:Int)(fl:Bool)(l:List α):List α:=l.filter λx=>(decide (lo<=f x) && decide (f x<=hi)) == fl
theorem wS{α:Type}{f:α->Int}{lo hi:Int}(hlh:lo<=hi):∀{l:List α},l.Pairwise (λa b=>f a<=f b)->sB f lo l++sA f lo hi l=inL f lo hi false l
 | [],_=>rfl
 |a::t,h=>by
  obtain⟨h1,h2⟩:=List.pairwise_cons.1 h;have ih:=wS hlh h2;unfold sB sA inL at ih |-;by_cases c1:f a<lo
  ·have e1:¬(lo<=f a):=by omega
   simp only[List.filter_cons,c1,e1];simpa using ih
  ·have nb:sB f lo t=[]:=rq (λx hx=>by have:=h1 x hx;simp;omega)
   unfold sB at nb;rw[nb]at ih;by_cases c2:hi<f a
   ·have e2:¬(f a<=hi):=by omega
    have e1:lo<=f a:=by omega
    simp only[List.filter_cons,c1,c2,e1,e2,nb];simpa using ih
   ·have e2:f a<=hi:=by omega
    have e1:lo<=f a:=by omega
    simp only[List.filter_cons,c1,c2,e1,e2,nb];simpa using ih
theorem Ca{α:Type}{f:α->Int}{lo hi:Int}(hlh:lo<=hi){l:List α}(h:l.Pairwise (λa b=>f a<=f b)):(sB f lo l++sA f lo hi l).length<=l.length:=by
 rw[wS hlh h];exact List.length_filter_le _ _
theorem aaE{B P A:List Row}{lo hi:Int}(hB:∀x∈B,x.key<lo)(hA:∀x∈A,hi<x.key)(hP:∀x∈P,lo<=x.key/\x.key<=hi)(sb:gJ B)(sp:gJ P)(sa:gJ A)(hlh:lo<=hi):gJ (B++(P++A)):=by
 unfold gJ;rw[List.pairwise_append,List.pairwise_append];refine⟨sb,⟨sp,sa,λx hx y hy=>?_⟩,λx hx y hy=>?_⟩
 ·have:=hP x hx;have:=hA y hy;omega
 ·have a:=hB x hx
  rcases List.mem_append.1 hy with hy|hy
  ·have:=hP y hy;omega
  ·have:=hA y hy;omega
theorem Yd{B P A:List aB}{lo hi:Int}(hB:∀x∈B,x.key<lo)(hA:∀x∈A,hi<x.key)(hP:∀x∈P,lo<=x.key/\x.key<=hi)(sb:iN B)(sp:iN P)(sa:iN A)(hlh:lo<=hi):iN (B++(P++A)):=by
 unfold iN;rw[List.pairwise_append,List.pairwise_append];refine⟨sb,⟨sp,sa,λx hx y hy=>?_⟩,λx hx y hy=>?_⟩
 ·have:=hP x hx;have:=hA y hy;omega
 ·have a:=hB x hx
  rcases List.mem_append.1 hy with hy|hy
  ·have:=hP y hy;omega
  ·have:=hA y hy;omega
theorem vS{α:Type}{l:List α}{i:Nat}{a x:α}(h:x∈l.set i a):x=a\/x∈l:=by
 rcases List.mem_or_eq_of_mem_set h with h|h
 ·exact .inr h
 ·exact .inl h
theorem zo{α:Type}{R:α->α->Prop}(tr:∀a b c,R a b->R b c->R a c):∀{l:List α},(∀(i:Nat) (x y:α),l[i]? = some x->l[i+1]? = some y->R x y)->l.Pairwise R
 | [],_=>List.Pairwise.nil
 |a::t,h=>by
  have ht:t.Pairwise R:=zo tr (λi x y hx hy=>h (i+1) x y (by simpa using hx) (by simpa using hy));refine List.pairwise_cons.2 ⟨λy hy=>?_,ht⟩;obtain⟨j,hj,rfl⟩:=List.getElem_of_mem hy;have h0:R a t[0]:=h 0 a _ rfl (by simp);cases j with
  |zero=>exact h0
  |succ j=>exact tr _ _ _ h0 (List.pairwise_iff_getElem.1 ht 0 (j+1) (by omega) hj (by omega))
theorem CP{α:Type}{f:α->Bool}{lt:α->α->Bool}{l:List α}(h:jP f lt l=true):(∀(i:Nat) (x y:α),l[i]? = some x->l[i+1]? = some y->lt x y=true)/\(∀x∈l,f x=true)/\l.length<=255:=by
 unfold jP at h;simp only[Bool.and_eq_true,decide_eq_true_eq,List.all_eq_true,List.mem_range]at h;refine⟨λi x y hx hy=>?_,λx hx=>?_,h.1⟩
 ·have:=h.2 (i+1) (List.getElem?_eq_some_iff.1 hy).1
  unfold wP at this;rw[hy]at this;simp[hx]at this;exact this.2
 ·obtain⟨j,hj,rfl⟩:=List.getElem_of_mem hx
  have:=h.2 j hj;unfold wP at this;rw[List.getElem?_eq_getElem hj]at this;simp at this;exact this.1
theorem CQ{r:Rg}(h:BS r=true):gJ r.rows/\(∀x∈r.rows,r.lo<=x.key/\x.key<=r.hi)/\r.rows.length<=255:=by
 obtain⟨h1,h2,h3⟩:=CP h;exact⟨zo (λa b c h1 h2=>by omega) (λi x y hx hy=>by simpa using h1 i x y hx hy),λx hx=>by simpa[EW]using h2 x hx,h3⟩
theorem CR{r:Rg}(h:za r=true):iN r.aW/\(∀x∈r.aW,r.lo<=x.key/\x.key<=r.hi)/\r.aW.length<=255:=by
 obtain⟨h1,h2,h3⟩:=CP h;exact⟨zo (λa b c h1 h2=>by omega) (λi x y hx hy=>qy.1 (h1 i x y hx hy)),λx hx=>by have:=h2 x hx;simp[EW]at this;exact this.2.2,h3⟩
end
