/- Lemmas. -/
import Derived.Test.YtignemioillaiaaGreatG37
namespace Go.Proofs.YtignemioillaiaaGreat
set_option maxHeartbeats 8000000
set_option maxRecDepth 100000
open List
section
open Go Go.Conc
def Cw(s:St)(q:bQ):St:={ s with T:=zD s.T q.key q.hi,D:=zF s.D q.key q.hi,O:=s.O.set q.to.toNat ((aT s.O q.to).1+1,(aT s.O q.to).2++[zG s.g q.to (aT s.O q.to).1 q.key q.hi s.T s.D]) }
theorem PQ{α:Type}(v1 v2:Value)(a b:List α):(([(v1,a),(v2,b)]:List (Value×List α)).map (·.2)).flatten=a++b:=by simp
theorem Jk{α:Type}(f:α->Int)(lo hi:Int)(l:List α):(sB f lo l).length<=l.length/\(sW f lo hi l).length<=l.length/\(sA f lo hi l).length<=l.length:=⟨length_filter_le _ _,length_filter_le _ _,length_filter_le _ _⟩
theorem aC.none{Λ:aC}{b x:Nat}{o o':Obj}(h:(Λ.add b o) x=none):(Λ.add b o') x=none:=by
 unfold aC.add at h |-;split at h
 ·cases h
 ·rename_i e;rw[if_neg e];exact h
section
variable{Λ:aC}{w0 w:World}{b:Nat}{s:St}
theorem MN(h:Sk Λ w0 b s w)(hk:rO s)(hT:s.T.length<=100000)(hD:s.D.length<=100000){q:bQ}(h3:0<=q.to)(h4:q.to<s.n)(hq4:(aT s.O q.to).2.length<=1000)(hnx:0<=(aT s.O q.to).1/\(aT s.O q.to).1<4294967295):ag Tryz.prog 180 #[Ptt b,.agg q.cells.toArray] w (λv w'=>v=.tuple #[]/\Sk Λ w0 b (Cw s q) w'):=by
 obtain⟨c,sq,k,key,v,hi,to⟩:=q;obtain⟨j,rfl⟩:=Int.eq_ofNat_of_zero_le h3;dsimp only at h4 hq4 hnx;have jh:=hk.n4;have hol:=hk.ol;obtain⟨o,ho⟩:∃o,s.O[j]? = some o:=⟨s.O[j]'(by omega),by simp[show j<s.O.length by omega]⟩;have Ei:aT s.O (j:Int)=o:=by unfold aT;rw[Int.toNat_natCast,ho];rfl
 rw[Ei]at hq4 hnx;refine ah Tryz.func180 rfl rfl ?_;refine λw1 b1 m1 g1 l1=>?_
 have hs0:w0.heap.size<=w.heap.size:=by obtain⟨_,_,_,_,_,_,h⟩:=h;exact h.gb.size
 obtain⟨hb,hu⟩:=h.box g1 m1 l1;obtain⟨T,M,D,O,I,ls,h⟩:=hb;have n1:w0.heap.size<=b1:=Nat.le_trans hs0 l1;obtain⟨l,hl,hlo⟩:=h.lane ho;have hll:=h.ll;obtain⟨g,cap,cur,ev,hg,aR,hcut,hsz⟩:=h.sa.o.at (f:=mV) (λ_=>rfl) hl;subst ev;obtain⟨nx,qv,rs⟩:=l;obtain⟨qa,qc,eq⟩:=af (h.sa.q _ (List.mem_of_getElem? hl)).q.own;have eq:qv=.slice qa rs.length qc:=eq;subst eq;have enx:o.1=nx:=by rw[<-hlo]
 have E5:o.2=rs.map (·.1):=by rw[<-hlo]
 have hc0:cur.toList[0+(j:Int).toNat*2+0]? = some (.int .u32 nx):=iM hcut rfl (by decide);refine⟨by kernel_rfl,_,_,h.mem,_,rfl,_,_,h.at,.int .u8 j,rfl,by omega,?_⟩;refine⟨by kernel_rfl,_,_,h.mem,_,rfl,_,_,h.at,.int .u8 j,rfl,_,_,aR,.int .u32 nx,hc0,_,_,h.at,.int .u64 key,rfl,_,_,h.at,.int .u64 hi,rfl,λw2 b5 m5 g2 l2=>?_⟩;refine⟨⟨g2.get h.at nofun,g2.get h.at nofun,g2.get aR nofun,g2.get h.at nofun,g2.get h.mem nofun,trivial⟩,_,_,_,m5,rfl,rfl,λw3 m6 g3=>?_⟩;replace m6:w3.heap[b5]? = some (.cells (eu ⟨s.g,j,nx,key,hi,[],[]⟩ Ptz Ptz).toArray 52):=m6;have hu5:=h.q9 l2;have n5:w0.heap.size<=b5:=Nat.le_trans h.gb.size l2;replace h:=h.box (g2.new g3 l2) m6 l2;clear aR hcut hsz hc0 m5 m6 g2 g3;obtain⟨f1,f2,f3⟩:=Jk (λx:Row=>x.key) key hi s.T;obtain⟨e1,e2,e3⟩:=Jk (λx:aA=>x.key) key hi s.D;refine⟨by kernel_rfl,_,_,h.mem,_,rfl,_,_,h.at,.int .u64 key,rfl,_,_,h.at,.int .u64 hi,rfl,_,IB h.sa.t.fz (Nat.le_trans hT (by decide)) key hi,?_⟩;rintro _ w4 ⟨v1,v2,v3,rfl,L1,L2,L3,sp⟩;obtain⟨a1,c1,rfl⟩:=af L1.own;obtain⟨a2,c2,rfl⟩:=af L2.own;obtain⟨a3,c3,rfl⟩:=af L3.own;have u2:∀x,(Value.slice a2 (sW (λx:Row=>x.key) key hi s.T).length c2).ownBlock=some x->(((Λ.add b1 _).add b5 _):aC) x=none:=λx hx=>h.q9 (L2.new x hx)
 replace L2:=L2.base h.gb;replace h:=h.au L1.gb;refine λw5 vb BK g5 KT=>?_
 replace h:=h.au g5;replace L2:=L2.au g5;refine⟨_,FJ (xs:=[(_,sB (λx:Row=>x.key) key s.T),(_,sA (λx:Row=>x.key) key hi s.T)]) BK ?_ (by rw[show fw _=_ from PQ _ _ _ _,length_append];omega) (by show 2<=100;decide),?_⟩
 ·intro x hx
  simp only[mem_cons,not_mem_nil,or_false]at hx;rcases hx with rfl|rfl
  ·exact(L1.au g5).fz
  ·exact(L3.au g5).fz
 intro T' w6 LT;rw[show fw [_,_]=_ from PQ _ _ _ _]at LT;have b2:∀x,T'.ownBlock=some x->(Value.slice a2 (sW (λx:Row=>x.key) key hi s.T).length c2).ownBlock≠some x:=λx hx he=>by
  have:=LT.new x hx;have:=L2.lt he;omega
 obtain⟨ta,tc,rfl⟩:=af LT.own;refine⟨_,_,_,LT.gb.get h.mem nofun,rfl,rfl,λw7 m7 g7=>?_⟩;have NR:w6.heap[b]? = _:=LT.gb.get h.mem nofun;replace L2:=(L2.au LT.gb).bV g7 NR (by decide) h.nb;replace h:=h.pg (t':=zD s.T key hi) (LT.base h.gb) LT.gb.weak (λx hx=>.inr (LT.new x hx)) m7 g7;refine⟨_,_,_,h.at,rfl,rfl,λw8 m8 g8=>?_⟩;replace m8:w8.heap[b5]? = some (.cells (eu ⟨s.g,j,nx,key,hi,sW (λx:Row=>x.key) key hi s.T,[]⟩ (.slice a2 _ c2) Ptz).toArray 52):=m8;replace L2:=L2.bV g8 h.at (by decide) n5;replace h:=h.other hu5 g8 m8 n5;clear m7 g7 m8 g8 NR L1 L3 LT BK g5 KT sp;refine⟨by kernel_rfl,_,_,h.mem,_,rfl,_,_,h.at,.int .u64 key,rfl,_,_,h.at,.int .u64 hi,rfl,_,IC h.sa.d.fz (Nat.le_trans hD (by decide)) key hi,?_⟩;rintro _ w4 ⟨v1,v4,v3,rfl,L1,L4,L3,sp⟩;obtain⟨a1,c1,rfl⟩:=af L1.own;obtain⟨a4,c4,rfl⟩:=af L4.own;obtain⟨a3,c3,rfl⟩:=af L3.own;have u4:∀x,(Value.slice a4 (sW (λx:aA=>x.key) key hi s.D).length c4).ownBlock=some x->(((Λ.add b1 _).add b5 _):aC) x=none:=λx hx=>h.q9 (L4.new x hx)
 replace L4:=L4.base h.gb;replace h:=h.au L1.gb;replace L2:=L2.au L1.gb;refine λw5 vb BK g5 KT=>?_
 replace h:=h.au g5;replace L2:=L2.au g5;replace L4:=L4.au g5;refine⟨_,FK (xs:=[(_,sB (λx:aA=>x.key) key s.D),(_,sA (λx:aA=>x.key) key hi s.D)]) BK ?_ (by rw[show fA _=_ from PQ _ _ _ _,length_append];omega) (by show 2<=100;decide),?_⟩
 ·intro x hx
  simp only[mem_cons,not_mem_nil,or_false]at hx;rcases hx with rfl|rfl
  ·exact(L1.au g5).fz
  ·exact(L3.au g5).fz
 intro D' w6 LD;rw[show fA [_,_]=_ from PQ _ _ _ _]at LD;have b4:∀x,D'.ownBlock=some x->(Value.slice a4 (sW (λx:aA=>x.key) key hi s.D).length c4).ownBlock≠some x:=λx hx he=>by
  have:=LD.new x hx;have:=L4.lt he;omega
 obtain⟨da,dc,rfl⟩:=af LD.own;refine⟨_,_,_,LD.gb.get h.mem nofun,rfl,rfl,λw7 m7 g7=>?_⟩;have NR:w6.heap[b]? = _:=LD.gb.get h.mem nofun;replace L2:=(L2.au LD.gb).bV g7 NR (by decide) h.nb;replace L4:=(L4.au LD.gb).bV g7 NR (by decide) h.nb;replace h:=h.PO (d':=zF s.D key hi) (LD.base h.gb) LD.gb.weak (λx hx=>.inr (LD.new x hx)) m7 g7;refine⟨_,_,_,h.at,rfl,rfl,λw8 m8 g8=>?_⟩;replace m8:w8.heap[b5]? = some (.cells (eu (zG s.g j nx key hi s.T s.D) (.slice a2 _ c2) (.slice a4 _ c4)).toArray 52):=m8;replace L2:=L2.bV g8 h.at (by decide) n5;replace L4:=L4.bV g8 h.at (by decide) n5;replace h:=h.other hu5 g8 m8 n5;clear m7 g7 m8 g8 NR L1 L3 LD BK g5 KT sp;obtain⟨g',cap',cur,ev,hg',aR,hcut,hsz⟩:=h.sa.o.at (f:=mV) (λ_=>rfl) hl;injection ev with ea _ ec;injection ea with ea;injection ea with ea;subst ea ec;have hq:=h.sa.q _ (List.mem_of_getElem? hl);dsimp only at hq;have hrl:rs.length<=1000:=by rw[E5,length_map]at hq4;exact hq4
 have hc1:cur.toList[0+(j:Int).toNat*2+1]? = some (.slice qa rs.length qc):=iM hcut rfl (by decide);refine⟨by kernel_rfl,_,_,aR,.slice qa rs.length qc,hc1,_,_,h.at,eu (zG s.g j nx key hi s.T s.D) (.slice a2 _ c2) (.slice a4 _ c4),rfl,rfl,λw9 b9 m9 g9 l9=>?_⟩;have BL:=hq.au g9;refine⟨⟨g9.get h.at nofun,g9.get aR nofun,trivial⟩,_,eu (zG s.g j nx key hi s.T s.D) (.slice a2 _ c2) (.slice a4 _ c4),BL.q.own,⟨_,_,m9,rfl,rfl,rfl⟩,by omega,λq' oN abb g10 n10=>?_⟩;have L10:=BL.q.app abb g10 n10;obtain⟨wC,uO,rfl⟩:=af abb;have PR:=L10.gb;have tR:∀x∈rs,sF w0 oN x:=λx hx=>(BL.r x hx).off g10 (bS BL.q (BL.r x hx).r (by decide)) (bS BL.q (BL.r x hx).d (by decide)) PR
 have r2:=(L2.au g9).off g10 (bS BL.q (L2.au g9) (by decide)) PR;have r4:=(L4.au g9).off g10 (bS BL.q (L4.au g9) (by decide)) PR;have Q10:QN w0 oN (.slice wC (rs.length+1) uO) (rs++[(zG s.g j nx key hi s.T s.D,.slice a2 (sW (λx:Row=>x.key) key hi s.T).length c2,.slice a4 (sW (λx:aA=>x.key) key hi s.D).length c4)]):=by
  refine⟨?_,λx hx=>?_⟩
  ·rw[length_append,map_append,flatten_append]
   simpa using(show LN 52 7 w0 oN _ _ _ from L10)
  ·rcases mem_append.1 hx with hx|hx
   ·exact tR x hx
   ·rw[mem_singleton]at hx
    subst hx;exact⟨r2,r4⟩
 have Sz:oN.heap[g]? = some (.cells cur 103):=g10.get (g9.get aR nofun) λz=>by
  obtain⟨c',hc'⟩:=ax BL.q.own z.symm;exact dw hc' (g9.get aR nofun) (by decide) rfl
 have O10:=(h.au g9).sa.o.off g10 (bS BL.q (h.au g9).sa.o (by decide)) PR;refine⟨_,_,_,Sz,gH rfl rfl (by rw[Array.length_toList];show 0+(j:Int).toNat*2+1<_;omega),rfl,λDn m11 g11=>?_⟩;have L11:=O10.set (f:=mV) (j:=1) (x':=(nx,.slice wC (rs.length+1) uO,rs++[(zG s.g j nx key hi s.T s.D,.slice a2 (sW (λx:Row=>x.key) key hi s.T).length c2,.slice a4 (sW (λx:aA=>x.key) key hi s.D).length c4)])) (λ_=>rfl) Sz hl (by decide) rfl m11 (by show 0+(j:Int).toNat*2+1=j*2+1;rw[Int.toNat_natCast,Nat.zero_add]) rfl rfl g11;generalize hrs:rs++[(zG s.g j nx key hi s.T s.D,Value.slice a2 (sW (λx:Row=>x.key) key hi s.T).length c2,Value.slice a4 (sW (λx:aA=>x.key) key hi s.D).length c4)]=rs' at *;rw[length_set]at L11;have S:=(h.au g9).Vp (nx':=nx) hl g10 Q10 (λx hx=>n10.own x hx) (λx hx=>?_) (λx hx=>?_) (λx hx=>?_) (by rw[length_set];exact L11) g11;rotate_left
 ·rw[<-hrs]at hx
  rcases mem_append.1 hx with hx|hx
  ·exact h.sa.sT _ (List.mem_of_getElem? hl) x hx
  ·rw[mem_singleton]at hx
   subst hx;exact b2
 ·rw[<-hrs]at hx
  rcases mem_append.1 hx with hx|hx
  ·exact h.sa.sD _ (List.mem_of_getElem? hl) x hx
  ·rw[mem_singleton]at hx
   subst hx;exact b4
 ·rw[<-hrs]at hx
  rcases mem_append.1 hx with hx|hx
  ·exact .inl hx
  ·rw[mem_singleton]at hx
   subst hx;exact .inr λy hy=>hy.elim (λz=>aC.none (u2 y z)) (λz=>aC.none (u4 y z))
 have hl':(ls.set j (nx,Value.slice wC (rs.length+1) uO,rs'))[j]? = some (nx,.slice wC (rs.length+1) uO,rs'):=by rw[ji (by omega),if_pos rfl]
 obtain⟨g',cap',cur',ev,hg',tX,hcut',hsz'⟩:=S.sa.o.at (f:=mV) (λ_=>rfl) hl';rw[length_set]at ev hsz';injection ev with ea _ ec;injection ea with ea;injection ea with ea;subst ea ec;have hc0:cur'.toList[0+(j:Int).toNat*2+0]? = some (.int .u32 nx):=iM hcut' rfl (by decide);refine⟨_,_,tX,.int .u32 nx,hc0,by omega,_,_,_,tX,gH rfl rfl (by rw[Array.length_toList];show 0+(j:Int).toNat*2+0<_;omega),rfl,λWX m12 g12=>?_⟩;have O11:=S.sa.o;rw[length_set]at O11;have L12:=(show LN 103 2 w0 Dn (.slice (Pty g) (ls.set j (nx,Value.slice wC (rs.length+1) uO,rs')).length cap) (ls.set j (nx,Value.slice wC (rs.length+1) uO,rs')).length _ by rw[length_set];exact O11).set (f:=mV) (j:=0) (x':=(nx+1,.slice wC (rs.length+1) uO,rs')) (λ_=>rfl) tX hl' (by decide) rfl m12 (by show 0+(j:Int).toNat*2+0=j*2+0;rw[Int.toNat_natCast,Nat.zero_add]) rfl rfl g12;rw[length_set,length_set]at L12;have hmm:=List.mem_of_getElem? hl';have S2:=S.Vp (nx':=nx+1) hl' (GB.refl _ _) (S.sa.q _ hmm) (λx hx=>.inl hx) (S.sa.sT _ hmm) (S.sa.sD _ hmm) (λx hx=>.inl hx) (by rw[length_set,length_set];exact L12) g12;have hfin:Cw s ⟨c,sq,k,key,v,hi,j⟩={ s with T:=zD s.T key hi,D:=zF s.D key hi,O:=(s.O.set j (nx,rs'.map (·.1))).set j (nx+1,rs'.map (·.1)) }:=by
  unfold Cw;dsimp only;rw[Ei,Int.toNat_natCast,set_set,enx,E5,<-hrs,map_append];rfl
 rw[hfin];exact⟨rfl,_,_,_,_,_,_,(S2.drop hu5).drop hu⟩
end
theorem aC.eq(Λ:aC)(b:Nat)(o:Obj):(Λ.add b o) b=some o:=by unfold aC.add;simp
theorem aC.ne{Λ:aC}{b x:Nat}{o:Obj}(h:x≠b):(Λ.add b o) x=Λ x:=by unfold aC.add;rw[if_neg h]
section
variable{Λ Λ':aC}{w0 w w':World}{b:Nat}{s:St}
theorem Sk.g(h:Sk Λ w0 b s w){x:Nat}{o:Obj}(hx:Λ x=some o):w.heap[x]? = some o:=by obtain⟨_,_,_,_,_,_,h⟩:=h;exact(h.pr x o hx).1
theorem Sk.sz(h:Sk Λ w0 b s w):w0.heap.size<=w.heap.size:=by obtain⟨_,_,_,_,_,_,h⟩:=h;exact h.gb.size
theorem Sk.weak(h:Sk Λ' w0 b s w)(hw:∀x o,Λ x=some o->Λ' x=some o):Sk Λ w0 b s w:=by
 obtain⟨T,M,D,O,I,ls,h⟩:=h;exact⟨T,M,D,O,I,ls,h.mem,h.nb,h.sa,λx o hx=>h.pr x o (hw x o hx),λx o hx=>h.rd x o (hw x o hx)⟩
theorem Sk.over(h:Sk Λ w0 b s w){x t:Nat}{c:Array Value}{o':Obj}(hx:Λ x=some (.cells c t))(g:GB (some x) w w')(m:w'.heap[x]? = some o')(hn:w0.heap.size<=x):Sk (Λ.add x o') w0 b s w':=by
 obtain⟨T,M,D,O,I,ls,h⟩:=h;obtain⟨Λ0,h0,e⟩:∃Λ0:aC,Λ0 x=none/\Λ=Λ0.add x (.cells c t):=⟨λy=>if y=x then none else Λ y,by simp,by
  funext y
  unfold aC.add;split
  ·rename_i e;rw[e];exact hx
  ·rename_i e;simp[e]⟩
 rw[e]at h;have h1:=h.other h0 g m hn;have e2:Λ.add x o'=Λ0.add x o':=by
  funext y
  rw[e];unfold aC.add;split<;>rfl
 rw[e2];exact⟨T,M,D,O,I,ls,h1⟩
theorem wrap_u32{x:Int}(h:0<=x/\x<4294967296):IntKind.u32.wrap x=x:=by
 show x%4294967296=x;omega
structure Ej(s:St):Prop where
 t:s.T.length<=100000
 d:s.D.length<=90000
 q:∀o∈s.O,o.2.length<=100/\0<=o.1/\o.1<4294967295
def zL(s:St)(q:bQ)(p:aA):St×aA:=if gV s q=true then({ Cw { s with D:=ja s.D { p with k:=2 } } q with M:=fT s.M q.key q.hi q.to },{ p with k:=2 })else({ s with D:=ja s.D { p with k:=5 } },{ p with k:=5 })
end
theorem xQ{α:Type}{P:α->Bool}{l:List α}(h:∀x∈l,P x=true):l.filter P=l:=filter_eq_self.2 h
theorem rP{α:Type}{P:α->Bool}{l:List α}(h:∀x∈l,P x=false):l.filter P=[]:=by
 rw[filter_eq_nil_iff];intro x hx;rw[h x hx];simp
theorem SB{α:Type}{f:α->Int}:∀{l:List α},Bw f l->l.take (dU f l)=l.filter (λx=>decide (f x<0))/\l.drop (dU f l)=l.filter (λx=>decide (0<=f x)):=by
 intro l h;obtain⟨h1,h2⟩:=uu f l h;have a1:∀x∈l.take (dU f l),f x<0:=by
  intro x hx;obtain⟨t,ht,rfl⟩:=getElem_of_mem hx;rw[length_take]at ht;exact h1 t _ (by omega) (by rw[getElem_take];exact getElem?_eq_getElem (by omega))
 have a2:∀x∈l.drop (dU f l),0<=f x:=by
  intro x hx;obtain⟨t,ht,rfl⟩:=getElem_of_mem hx;exact h2 (dU f l+t) _ (by omega) (by rw[getElem_drop];exact getElem?_eq_getElem _)
 constructor
 ·conv=>rhs;rw[<-take_append_drop (dU f l) l]
  rw[filter_append,xQ (λx hx=>by simpa using a1 x hx),rP (λx hx=>by have:=a2 x hx;simp;omega),append_nil]
 ·conv=>rhs;rw[<-take_append_drop (dU f l) l]
  rw[filter_append,rP (λx hx=>by have:=a1 x hx;simp;omega),xQ (λx hx=>by simpa using a2 x hx),nil_append]
theorem KU{α:Type}{f:α->Int}{l:List α}{q:α}(h:Bw f l)(hu:∀(i j:Nat) (x y:α),i<j->l[i]? = some x->l[j]? = some y->0<=f x->0<f y) :
 (if nW f l then l.set (dU f l) q else kQ l (dU f l) q)=l.filter (λx=>decide (f x<0))++q::l.filter (λx=>decide (0<f x)):=by
 obtain⟨t1,t2⟩:=SB h;cases hh:nW f l with
 |true =>
  obtain⟨x,hx,h0⟩:=yH hh;have hlt:=(List.getElem?_eq_some_iff.1 hx).1;have e2:l.drop (dU f l+1)=l.filter (λx=>decide (0<f x)):=by
   have d:l.drop (dU f l)=x::l.drop (dU f l+1):=by
    rw[drop_eq_getElem_cons hlt,(List.getElem?_eq_some_iff.1 hx).2]
   have a:∀y∈l.drop (dU f l+1),0<f y:=by
    intro y hy;obtain⟨t,ht,rfl⟩:=getElem_of_mem hy;exact hu (dU f l) (dU f l+1+t) x _ (by omega) hx (by rw[getElem_drop];exact getElem?_eq_getElem _) (by omega)
   have b:∀y∈l.take (dU f l),f y<0:=by
    intro y hy;rw[t1]at hy;simpa using(mem_filter.1 hy).2
   conv=>rhs;rw[<-take_append_drop (dU f l) l,d]
   rw[filter_append,filter_cons,rP (λy hy=>by have:=b y hy;simp;omega),xQ (λy hy=>by simpa using a y hy),h0];simp
  rw[if_pos rfl,set_eq_take_append_cons_drop,if_pos hlt,t1,e2]
 |false =>
  have e2:l.drop (dU f l)=l.filter (λx=>decide (0<f x)):=by
   rw[t2];apply filter_congr
   intro x hx;obtain⟨t,ht,rfl⟩:=getElem_of_mem hx;obtain⟨h1,h2⟩:=uu f l h;by_cases hz:f l[t]=0
   ·exfalso
    have hge:dU f l<=t:=by
     rcases Nat.lt_or_ge t (dU f l)with hlt|hge
     ·have:=h1 t _ hlt (getElem?_eq_getElem ht);omega
     ·exact hge
    have hp:dU f l<l.length:=by omega
    have hy:=getElem?_eq_getElem hp;have h0:=h2 _ _ (Nat.le_refl _) hy;have hnz:f l[dU f l]≠0:=by
     intro e;unfold nW at hh;rw[hy]at hh;simp[e]at hh
    rcases Nat.lt_or_eq_of_le hge with hlt|heq
    ·have:=hu (dU f l) t _ _ hlt hy (getElem?_eq_getElem ht) h0
     omega
    ·exact hnz (by simpa[heq]using hz)
   ·by_cases hp:0<=f l[t]
    ·have:0<f l[t]:=by omega
     simp[hp,this]
    ·have:¬0<f l[t]:=by omega
     simp[hp,this]
  rw[if_neg (by simp),kQ,t1,e2]
theorem YG{T:List Row}(h:gU T)(key:Int):∀(i j:Nat) (x y:Row),i<j->T[i]? = some x->T[j]? = some y->0<=gG x.key key->0<gG y.key key:=by
 intro i j x y hij hx hy h0;have:=Cu h hij hx hy;have a:¬gG x.key key<0:=by omega
 rw[vw]at a;have b:¬gG y.key key<0:=by rw[vw];omega
 have c:gG y.key key≠0:=by rw[Ne,mZ];omega
 omega
theorem YH{D:List aA}(h:iU D)(q:aA):∀(i j:Nat) (x y:aA),i<j->D[i]? = some x->D[j]? = some y->0<=jv x q->0<jv y q:=by
 intro i j x y hij hx hy h0;have:=Cu h hij hx hy;have a:¬jv x q<0:=by omega
 rw[Ct]at a;have b:¬jv y q<0:=by rw[Ct];omega
 have c:jv y q≠0:=by rw[Ne,Yn];omega
 omega
theorem GU{a b:Int}:0<gG a b↔b<a:=by
 unfold gG;split
 ·simp;omega
 ·split<;>omega
theorem YI{a b:aA}:0<jv a b↔b.key<a.key\/b.key=a.key/\b.c<a.c:=by
 unfold jv NC;split
 ·rename_i h
  rw[mZ]at h;rw[GU];omega
 ·rename_i h
  rw[mZ]at h;rw[GU];omega
theorem qK{a b:aA}:ahead a b=true↔a.key<b.key\/a.key=b.key/\a.c<b.c:=by simp[ahead]
def KV(D:List aA)(r:aA):List aA:=D.filter (λx=>ahead x r)++r::D.filter (λx=>ahead r x)
theorem KW{D:List aA}(h:iU D)(r:aA):ja D r=KV D r:=by
 unfold ja KV;rw[KU (WB h r) (YH h r)];congr 1
 ·apply filter_congr;intro x _
  rw[Bool.eq_iff_iff,qK,decide_eq_true_iff,Ct]
 ·congr 1
  apply filter_congr;intro x _
  rw[Bool.eq_iff_iff,qK,decide_eq_true_iff,YI]
def PS(T:List Row)(r:Row):List Row:=T.filter (λx=>decide (x.key<r.key))++r::T.filter (λx=>decide (r.key<x.key))
theorem Vr{T:List Row}(h:gU T)(key v:Int):(if lN T key then T.set (uw T key) ⟨key,v⟩else kQ T (uw T key) ⟨key,v⟩)=PS T ⟨key,v⟩:=by
 unfold PS;rw[KU (WA h key) (YG h key)];congr 1
 ·apply filter_congr;intro x _
  rw[Bool.eq_iff_iff,decide_eq_true_iff,decide_eq_true_iff,vw]
 ·congr 1
  apply filter_congr;intro x _
  rw[Bool.eq_iff_iff,decide_eq_true_iff,decide_eq_true_iff,GU]
theorem gU.le{T:List Row}(h:gU T):T.Pairwise (λa b=>a.key<=b.key):=h.imp (λh=>by omega)
theorem iU.le{D:List aA}(h:iU D):D.Pairwise (λa b=>a.key<=b.key):=h.imp (λh=>by omega)
theorem SC{D:List aA}(h:iU D)(r:aA):iU (KV D r):=by
 unfold KV iU;rw[pairwise_append,pairwise_cons];refine⟨h.sublist filter_sublist,⟨λx hx=>?_,h.sublist filter_sublist⟩,λx hx y hy=>?_⟩
 ·exact qK.1 (mem_filter.1 hx).2
 ·have a:=qK.1 (mem_filter.1 hx).2
  rcases mem_cons.1 hy with rfl|hy
  ·exact a
  ·have b:=qK.1 (mem_filter.1 hy).2
   omega
theorem II{T:List Row}(h:gU T)(r:Row):gU (PS T r):=by
 unfold PS gU;rw[pairwise_append,pairwise_cons];refine⟨h.sublist filter_sublist,⟨λx hx=>?_,h.sublist filter_sublist⟩,λx hx y hy=>?_⟩
 ·simpa using(mem_filter.1 hx).2
 ·have a:x.key<r.key:=by simpa using(mem_filter.1 hx).2
  rcases mem_cons.1 hy with rfl|hy
  ·exact a
  ·have b:r.key<y.key:=by simpa using(mem_filter.1 hy).2
   omega
theorem Vs(D:List aA)(r:aA)(h:iU D):(KV D r).length<=D.length+1:=by
 rw[<-KW h];unfold ja;split
 ·simp
 ·rw[iq];omega
theorem WY{α:Type}{f:α->Int}{lo:Int}{l:List α}{x:α}(h:x∈sB f lo l):f x<lo:=by unfold sB at h;simpa using(mem_filter.1 h).2
theorem WZ{α:Type}{f:α->Int}{lo hi:Int}{l:List α}{x:α}(h:x∈sA f lo hi l):hi<f x:=by
 unfold sA at h;have:=(mem_filter.1 h).2;simp at this;exact this.2
theorem KX:∀{t:List Pc} {p:Pc},vS p.f p.g t->∀(i:Nat) (x y:Pc),(p::t)[i+1]? = some x->(p::t)[i]? = some y->x.g<4/\y.f<x.f/\y.g≠x.g
 | [],p,_,i,x,y,hx,_=>by simp at hx
 |q::t,p,h,i,x,y,hx,hy=>by
  obtain⟨h1,h2,h3,h4,h5,h6⟩:=h;cases i with
  |zero=>simp at hx hy;subst hx;subst hy;exact⟨h5,h1,h3⟩
  |succ i=>exact KX h6 i x y (by simpa using hx) (by simpa using hy)
theorem FL{m:List Pc}(h:Can m)(hl:m.length<=1000):jY m=true:=by
 cases m with
 |nil=>exact h.elim
 |cons p t =>
  obtain⟨h1,h2,h3,h4⟩:=h;have ha:=KX (p:=p) (t:=t) (by rw[h1];exact h4);unfold jY;simp only[Bool.and_eq_true,decide_eq_true_eq,all_eq_true,mem_range];refine⟨⟨⟨by simp,hl⟩,by simp[h1]⟩,λi hi=>?_⟩;unfold Jf;rw[getElem?_eq_getElem hi];cases i with
  |zero=>simp[h3]
  |succ i =>
   obtain⟨a1,a2,a3⟩:=ha i _ _ (getElem?_eq_getElem hi) (getElem?_eq_getElem (by omega));simp only[Nat.add_sub_cancel];rw[getElem?_eq_getElem (by omega)];simp only[Bool.and_eq_true,decide_eq_true_eq,Bool.or_eq_true,Bool.not_eq_true',beq_eq_false_iff_ne];exact⟨a1,.inr ⟨a2,a3⟩⟩
theorem YJ{T:List Row}(h:gU T)(key v:Int):gU (pg T key v)/\(pg T key v).length<=T.length+1:=by
 have e:=Vr h key v;unfold pg;cases hh:lN T key with
 |true =>
  rw[hh]at e;simp only[if_true]at e |-;exact⟨e▸II h _,by simp⟩
 |false =>
  rw[hh]at e;have nf:¬(false=true):=by simp
  rw[if_neg nf]at e |-;split
  ·exact⟨h,by omega⟩
  ·exact⟨e▸II h _,by rw[iq];omega⟩
theorem YK{T:List Row}(h:gU T)(key:Int):gU (xP T key)/\(xP T key).length<=T.length:=by
 unfold xP;split
 ·exact⟨h.sublist (eraseIdx_sublist _ _),(eraseIdx_sublist _ _).length_le⟩
 ·exact⟨h,Nat.le_refl _⟩
theorem NS{D:List aA}(h:iU D)(r:aA):iU (ja D r)/\(ja D r).length<=D.length+1:=by
 rw[KW h];exact⟨SC h r,Vs D r h⟩
def inL{α:Type}(f:α->Int)(lo hi:Int)(fl:Bool)(l:List α):List α:=l.filter λx=>(decide (lo<=f x) && decide (f x<=hi)) == fl
theorem xx{α:Type}{f:α->Int}{lo hi:Int}(hlh:lo<=hi):∀{l:List α},l.Pairwise (λa b=>f a<=f b)->sB f lo l++sA f lo hi l=inL f lo hi false l
 | [],_=>rfl
 |a::t,h=>by
  obtain⟨h1,h2⟩:=pairwise_cons.1 h;have ih:=xx hlh h2;unfold sB sA inL at ih |-;by_cases c1:f a<lo
  ·have e1:¬(lo<=f a):=by omega
   simp only[filter_cons,c1,e1];simpa using ih
  ·have nb:sB f lo t=[]:=rP (λx hx=>by have:=h1 x hx;simp;omega)
   unfold sB at nb;rw[nb]at ih;by_cases c2:hi<f a
   ·have e2:¬(f a<=hi):=by omega
    have e1:lo<=f a:=by omega
    simp only[filter_cons,c1,c2,e1,e2,nb];simpa using ih
   ·have e2:f a<=hi:=by omega
    have e1:lo<=f a:=by omega
    simp only[filter_cons,c1,c2,e1,e2,nb];simpa using ih
theorem Cx{α:Type}{f:α->Int}{lo hi:Int}(hlh:lo<=hi){l:List α}(h:l.Pairwise (λa b=>f a<=f b)):(sB f lo l++sA f lo hi l).length<=l.length:=by
 rw[xx hlh h];exact length_filter_le _ _
theorem abd{B P A:List Row}{lo hi:Int}(hB:∀x∈B,x.key<lo)(hA:∀x∈A,hi<x.key)(hP:∀x∈P,lo<=x.key/\x.key<=hi)(sb:gU B)(sp:gU P)(sa:gU A)(hlh:lo<=hi):gU (B++(P++A)):=by
 unfold gU;rw[pairwise_append,pairwise_append];refine⟨sb,⟨sp,sa,λx hx y hy=>?_⟩,λx hx y hy=>?_⟩
 ·have:=hP x hx;have:=hA y hy;omega
 ·have a:=hB x hx
  rcases mem_append.1 hy with hy|hy
  ·have:=hP y hy;omega
  ·have:=hA y hy;omega
theorem YL{B P A:List aA}{lo hi:Int}(hB:∀x∈B,x.key<lo)(hA:∀x∈A,hi<x.key)(hP:∀x∈P,lo<=x.key/\x.key<=hi)(sb:iU B)(sp:iU P)(sa:iU A)(hlh:lo<=hi):iU (B++(P++A)):=by
 unfold iU;rw[pairwise_append,pairwise_append];refine⟨sb,⟨sp,sa,λx hx y hy=>?_⟩,λx hx y hy=>?_⟩
 ·have:=hP x hx;have:=hA y hy;omega
 ·have a:=hB x hx
  rcases mem_append.1 hy with hy|hy
  ·have:=hP y hy;omega
  ·have:=hA y hy;omega
theorem wE{α:Type}{l:List α}{i:Nat}{a x:α}(h:x∈l.set i a):x=a\/x∈l:=by
 rcases mem_or_eq_of_mem_set h with h|h
 ·exact .inr h
 ·exact .inl h
theorem zM{α:Type}{R:α->α->Prop}(tr:∀a b c,R a b->R b c->R a c):∀{l:List α},(∀(i:Nat) (x y:α),l[i]? = some x->l[i+1]? = some y->R x y)->l.Pairwise R
 | [],_=>Pairwise.nil
 |a::t,h=>by
  have ht:t.Pairwise R:=zM tr (λi x y hx hy=>h (i+1) x y (by simpa using hx) (by simpa using hy));refine pairwise_cons.2 ⟨λy hy=>?_,ht⟩;obtain⟨j,hj,rfl⟩:=getElem_of_mem hy;have h0:R a t[0]:=h 0 a _ rfl (by simp);cases j with
  |zero=>exact h0
  |succ j=>exact tr _ _ _ h0 (pairwise_iff_getElem.1 ht 0 (j+1) (by omega) hj (by omega))
theorem Dp{α:Type}{f:α->Bool}{lt:α->α->Bool}{l:List α}(h:j5 f lt l=true):(∀(i:Nat) (x y:α),l[i]? = some x->l[i+1]? = some y->lt x y=true)/\(∀x∈l,f x=true)/\l.length<=255:=by
 unfold j5 at h;simp only[Bool.and_eq_true,decide_eq_true_eq,all_eq_true,mem_range]at h;refine⟨λi x y hx hy=>?_,λx hx=>?_,h.1⟩
 ·have:=h.2 (i+1) (List.getElem?_eq_some_iff.1 hy).1
  unfold xn at this;rw[hy]at this;simp[hx]at this;exact this.2
 ·obtain⟨j,hj,rfl⟩:=getElem_of_mem hx
  have:=h.2 j hj;unfold xn at this;rw[getElem?_eq_getElem hj]at this;simp at this;exact this.1
theorem Dq{r:Rg}(h:Cs r=true):gU r.rows/\(∀x∈r.rows,r.lo<=x.key/\x.key<=r.hi)/\r.rows.length<=255:=by
 obtain⟨h1,h2,h3⟩:=Dp h;exact⟨zM (λa b c h1 h2=>by omega) (λi x y hx hy=>by simpa using h1 i x y hx hy),λx hx=>by simpa[FB]using h2 x hx,h3⟩
theorem Dr{r:Rg}(h:zB r=true):iU r.aZ/\(∀x∈r.aZ,r.lo<=x.key/\x.key<=r.hi)/\r.aZ.length<=255:=by
 obtain⟨h1,h2,h3⟩:=Dp h;exact⟨zM (λa b c h1 h2=>by omega) (λi x y hx hy=>qK.1 (h1 i x y hx hy)),λx hx=>by have:=h2 x hx;simp[FB]at this;exact this.2.2,h3⟩
section
variable{Λ:aC}{w0 w:World}{b:Nat}{s:St}
theorem Sk.KY(h:Sk Λ w0 b s w){w1 w2 w3:World}{b1 b2 b3:Nat}{o1 o2 o3:Obj}(g1:GB none w w1)(m1:w1.heap[b1]? = some o1)(l1:w.heap.size<=b1)(g2:GB none w1 w2)(m2:w2.heap[b2]? = some o2)(l2:w1.heap.size<=b2)(g3:GB none w2 w3)(m3:w3.heap[b3]? = some o3)(l3:w2.heap.size<=b3):Sk (((Λ.add b1 o1).add b2 o2).add b3 o3) w0 b s w3/\b1≠b2/\b1≠b3/\b2≠b3/\(Λ b1=none/\Λ b2=none/\Λ b3=none)/\w0.heap.size<=b1/\w0.heap.size<=b2/\w0.heap.size<=b3:=by
 have hs:=h.sz;obtain⟨h1,u1⟩:=h.box g1 m1 l1;obtain⟨h2,u2⟩:=h1.box g2 m2 l2;obtain⟨h3,u3⟩:=h2.box g3 m3 l3;have k1:=ae m1;have k2:=ae m2;have e1:=g1.size;have e2:=g2.size;have e3:=g3.size;have n12:b1≠b2:=by omega
 have n13:b1≠b3:=by omega
 have n23:b2≠b3:=by omega
 rw[aC.ne n12.symm]at u2;rw[aC.ne n23.symm,aC.ne n13.symm]at u3;exact⟨h3,n12,n13,n23,⟨u1,u2,u3⟩,by omega,by omega,by omega⟩
theorem KZ{Λ:aC}{b1 b2 b3:Nat}(hu:Λ b1=none/\Λ b2=none/\Λ b3=none):∀x o,Λ x=some o->x≠b1/\x≠b2/\x≠b3:=by
 intro x o hx;refine⟨λe=>?_,λe=>?_,λe=>?_⟩
 ·rw[e,hu.1]at hx;cases hx
 ·rw[e,hu.2.1]at hx;cases hx
 ·rw[e,hu.2.2]at hx;cases hx
theorem MO(h:Sk Λ w0 b s w)(hk:rO s)(hz:Ej s){q:bQ}(h0:0<=q.key)(h1:q.key<=q.hi)(h2:q.hi<=18446744073709551615)(h3:0<=q.to)(p:aA):ag Tryz.prog 142 #[Ptt b,.agg q.cells.toArray,.agg p.cells.toArray] w (λv w'=>v=.agg (zL s q p).2.cells.toArray/\Sk Λ w0 b (zL s q p).1 w'):=by
 refine ah Tryz.func142 rfl rfl ?_;refine λw1 b1 m1 g1 l1 w2 b2 m2 g2 l2 w3 b3 m3 g3 l3=>?_
 obtain⟨h,n12,n13,n23,hu,q1,q2,q3⟩:=h.KY g1 m1 l1 g2 m2 l2 g3 m3 l3;have a1:=h.g (x:=b1) (by rw[aC.ne n13,aC.ne n12,aC.eq]);obtain⟨T,M,D,O,I,ls,hw⟩:=h;refine⟨_,_,a1,q.cells,rfl,rfl,_,Sv hw hk h0 h1 h2 h3,?_⟩;rintro _ w4 ⟨g4,va,vn,vc,rfl,hP⟩;have uM:∀x,gV s q=true->(Value.slice va vn vc).ownBlock=some x->_:=λx hf hx=>hw.q9 ((hP hf).new x hx)
 have hgb:=hw.gb;have h:Sk (((Λ.add b1 _).add b2 _).add b3 _) w0 b s w4:=⟨T,M,D,O,I,ls,hw.au g4⟩;clear m1 g1 l1 m2 g2 l2 m3 g3 l3 a1;unfold zL;obtain⟨f,hf⟩:∃f,gV s q=f:=⟨_,rfl⟩;rw[hf]at hP uM |-;have a2:=h.g (x:=b2) (by rw[aC.ne n23,aC.eq]);cases f
 ·refine⟨_,_,_,a2,rfl,rfl,λw5 m5 g5=>?_⟩
  replace m5:w5.heap[b2]? = some (.cells (aA.cells { p with k:=5 }).toArray 57):=m5;replace h:=h.over (by rw[aC.ne n23,aC.eq]) g5 m5 q2;refine⟨_,_,m5,aA.cells { p with k:=5 },rfl,rfl,_,pR h hk.sD (Nat.le_trans hz.d (by decide)) { p with k:=5 },?_⟩;rintro _ w6 ⟨rfl,h⟩;have m6:=h.g (aC.eq _ b2 _);have m7:=h.g (x:=b3) (by rw[aC.ne n23.symm,aC.eq]);refine⟨_,_,m6,aA.cells { p with k:=5 },rfl,rfl,_,_,_,m7,rfl,rfl,λw7 m8 g8=>?_⟩;replace h:=h.over (by rw[aC.ne n23.symm,aC.eq]) g8 m8 q3;refine⟨_,_,m8,aA.cells { p with k:=5 },rfl,rfl,rfl,h.weak λx o hx=>?_⟩;obtain⟨e1,e2,e3⟩:=KZ hu x o hx;rw[aC.ne e3,aC.ne e2,aC.ne e3,aC.ne e2,aC.ne e1];exact hx
 ·have hP:=hP rfl
  have hto:q.to<s.n/\(aT s.O q.to).2.length<4:=by unfold gV at hf;simp at hf;exact⟨hf.1.1.2,hf.1.2⟩
  have xw:0<(fT s.M q.key q.hi q.to).length:=by
   obtain⟨gc,_⟩:=wZ hk.can h0 h1 (by omega) (g:=q.to) ⟨h3,by have:=hk.n4;omega⟩;cases hg:fT s.M q.key q.hi q.to with
   |nil=>rw[hg]at gc;exact gc.elim
   |cons _ _=>exact Nat.succ_pos _
  obtain⟨x,cap,cur,ev,hcx,_,_,_⟩:=jD hP.own xw;have hxn:=hP.new x (by rw[ev];rfl);have ux:=uM x rfl (by rw[ev];rfl);replace h:Sk ((((Λ.add b1 _).add b2 _).add b3 _).add x _) w0 b s w4:=⟨T,M,D,O,I,ls,hw.box g4 hcx hxn⟩;have nx2:x≠b2:=λe=>by rw[e,aC.ne n23,aC.eq]at ux;cases ux
  have nx3:x≠b3:=λe=>by rw[e,aC.eq]at ux;cases ux
  have W9:x≠b1:=λe=>by rw[e,aC.ne n13,aC.ne n12,aC.eq]at ux;cases ux
  refine⟨_,_,_,a2,rfl,rfl,λw5 m5 g5=>?_⟩;replace m5:w5.heap[b2]? = some (.cells (aA.cells { p with k:=2 }).toArray 57):=m5;replace h:=h.over (by rw[aC.ne nx2.symm,aC.ne n23,aC.eq]) g5 m5 q2;refine⟨_,_,m5,aA.cells { p with k:=2 },rfl,rfl,_,pR h hk.sD (Nat.le_trans hz.d (by decide)) { p with k:=2 },?_⟩;rintro _ w6 ⟨rfl,h⟩;have abf:=NS hk.sD { p with k:=2 };have hlm:aT s.O q.to∈s.O:=by
   unfold aT;have hl:q.to.toNat<s.O.length:=by have:=hk.ol;omega
   rw[getElem?_eq_getElem hl];exact getElem_mem hl
  have m6:=h.g (x:=b1) (by rw[aC.ne n12,aC.ne W9.symm,aC.ne n13,aC.ne n12,aC.eq]);refine⟨_,_,m6,q.cells,rfl,rfl,_,MN h ⟨hk.g0,hk.gn,hk.n4,hk.sT,abf.1,hk.BJ,hk.can,hk.ol,hk.il⟩ hz.t (by show(ja s.D _).length<=_;have:=abf.2;have:=hz.d;omega) h3 hto.1 (by show(aT s.O q.to).2.length<=_;omega) (hz.q _ hlm).2,?_⟩;rintro _ w7 ⟨rfl,h⟩;have hx7:=h.g (x:=x) (by rw[aC.ne nx2,aC.eq]);replace h:Sk ((((Λ.add b1 _).add b2 _).add b3 _).add b2 _) w0 b _ w7:=h.weak λy o hy=>by
   by_cases e2:y=b2
   ·subst e2;rw[aC.eq]at hy |-;exact hy
   ·rw[aC.ne e2]at hy |-
    have ex:y≠x:=λe=>by rw[e]at hy;rw[ux]at hy;cases hy
    rw[aC.ne ex];exact hy
  obtain⟨T,M',D,O,I,ls,hw'⟩:=h;have PM:PN w0 w7 (.slice va vn vc) (fT s.M q.key q.hi q.to):=⟨ay hP.own λy hy=>by
   rw[ev]at hy;obtain rfl:x=y:=by simpa[Value.ownBlock]using hy
   rw[hx7,hcx],hw'.gb,λy hy=>Nat.le_trans hgb.size (hP.new y hy)⟩
  refine⟨_,_,_,hw'.mem,rfl,rfl,λw8 m8 g8=>?_⟩;have h:Sk ((((Λ.add b1 _).add b2 _).add b3 _).add b2 _) w0 b { Cw { s with D:=ja s.D { p with k:=2 } } q with M:=fT s.M q.key q.hi q.to } w8:=⟨_,_,_,_,_,_,hw'.aa7 PM (λy hy=>by
   have hy':=hy;rw[ev]at hy';obtain rfl:x=y:=by simpa[Value.ownBlock]using hy'
   rw[aC.ne nx2];exact ux) m8 g8⟩
  have m9:=h.g (aC.eq _ b2 _);have m10:=h.g (x:=b3) (by rw[aC.ne n23.symm,aC.eq]);refine⟨_,_,m9,aA.cells { p with k:=2 },rfl,rfl,_,_,_,m10,rfl,rfl,λw9 m11 g11=>?_⟩;replace h:=h.over (by rw[aC.ne n23.symm,aC.eq]) g11 m11 q3;refine⟨_,_,m11,aA.cells { p with k:=2 },rfl,rfl,rfl,h.weak λy o hy=>?_⟩;obtain⟨e1,e2,e3⟩:=KZ hu y o hy;rw[aC.ne e3,aC.ne e2,aC.ne e3,aC.ne e2,aC.ne e1];exact hy
end
end
