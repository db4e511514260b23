/- slices.Clone; Packets, State. -/
import Derived.Test.YtignemioillaiabGreatG33
namespace Go.Proofs.YtignemioillaiabGreat
set_option maxHeartbeats 8000000
set_option maxRecDepth 100000
section
open Go Go.Conc
theorem TC {w:World} {v:Value} {n:Nat} {xs:List Value} (h:Fz w 97 5 v n xs) (ho:xs.all one=true) (hn:n<=1000000):af Tryz.prog 33 #[v] w (λ v' w'=>w'.ownsRow 0 97 5 v' n xs/\GB none w w'/\∀ x,v'.ownBlock=some x->w.heap.size<=x):=by
 obtain ⟨a,c,rfl,hc,hl,hv⟩:=h;refine aj ah mixed Tryz.func33 rfl rfl ?_;rcases hv with ⟨rfl,rfl⟩ | ⟨b,off,cs,rfl,hb,hcut⟩
 ·obtain rfl:xs=[]:=List.eq_nil_of_length_eq_zero (by omega)
  exact ⟨eX _ _ _,GB.refl _ _,nofun⟩
 ·refine λ w1 b1 m1 g1 l1=>?_
  refine ⟨_,xs,⟨rfl,.inr ⟨b1,0,#[],rfl,Nat.zero_le _,m1,Nat.zero_le _,Nat.zero_le _,rfl,rfl⟩⟩,⟨_,_,g1.get hb nofun,hcut,hl,ho⟩,by omega,λ v' w2 ho2 g2 n2=>?_⟩;refine ⟨?_,g1.new g2 l1,λ x hx=>?_⟩
  ·have e:0+n=n:=Nat.zero_add n
   rw [e] at ho2;exact ho2
  ·rcases n2 x hx with e | e
   ·have e:some b1=some x:=e
    cases e;exact l1
   ·have:=g1.size;omega
theorem TD {w:World} {v:Value} {n:Nat} {xs:List Value} (h:Fz w 80 17 v n xs) (ho:xs.all one=true) (hn:n<=1000000):af Tryz.prog 39 #[v] w (λ v' w'=>w'.ownsRow 0 80 17 v' n xs/\GB none w w'/\∀ x,v'.ownBlock=some x->w.heap.size<=x):=by
 obtain ⟨a,c,rfl,hc,hl,hv⟩:=h;refine aj ah mixed Tryz.func39 rfl rfl ?_;rcases hv with ⟨rfl,rfl⟩ | ⟨b,off,cs,rfl,hb,hcut⟩
 ·obtain rfl:xs=[]:=List.eq_nil_of_length_eq_zero (by omega)
  exact ⟨eX _ _ _,GB.refl _ _,nofun⟩
 ·refine λ w1 b1 m1 g1 l1=>?_
  refine ⟨_,xs,⟨rfl,.inr ⟨b1,0,#[],rfl,Nat.zero_le _,m1,Nat.zero_le _,Nat.zero_le _,rfl,rfl⟩⟩,⟨_,_,g1.get hb nofun,hcut,hl,ho⟩,by omega,λ v' w2 ho2 g2 n2=>?_⟩;refine ⟨?_,g1.new g2 l1,λ x hx=>?_⟩
  ·have e:0+n=n:=Nat.zero_add n
   rw [e] at ho2;exact ho2
  ·rcases n2 x hx with e | e
   ·have e:some b1=some x:=e
    cases e;exact l1
   ·have:=g1.size;omega
theorem Qu {w:World} {v:Value} {n:Nat} {xs:List Value} (h:Fz w 139 2 v n xs) (ho:xs.all one=true) (hn:n<=1000000):af Tryz.prog 40 #[v] w (λ v' w'=>w'.ownsRow 0 139 2 v' n xs/\GB none w w'/\∀ x,v'.ownBlock=some x->w.heap.size<=x):=by
 obtain ⟨a,c,rfl,hc,hl,hv⟩:=h;refine aj ah mixed Tryz.func40 rfl rfl ?_;rcases hv with ⟨rfl,rfl⟩ | ⟨b,off,cs,rfl,hb,hcut⟩
 ·obtain rfl:xs=[]:=List.eq_nil_of_length_eq_zero (by omega)
  exact ⟨eX _ _ _,GB.refl _ _,nofun⟩
 ·refine λ w1 b1 m1 g1 l1=>?_
  refine ⟨_,xs,⟨rfl,.inr ⟨b1,0,#[],rfl,Nat.zero_le _,m1,Nat.zero_le _,Nat.zero_le _,rfl,rfl⟩⟩,⟨_,_,g1.get hb nofun,hcut,hl,ho⟩,by omega,λ v' w2 ho2 g2 n2=>?_⟩;refine ⟨?_,g1.new g2 l1,λ x hx=>?_⟩
  ·have e:0+n=n:=Nat.zero_add n
   rw [e] at ho2;exact ho2
  ·rcases n2 x hx with e | e
   ·have e:some b1=some x:=e
    cases e;exact l1
   ·have:=g1.size;omega
theorem Qv {w:World} {v:Value} {n:Nat} {xs:List Value} (h:Fz w 70 7 v n xs) (ho:xs.all one=true) (hn:n<=1000000):af Tryz.prog 41 #[v] w (λ v' w'=>w'.ownsRow 0 70 7 v' n xs/\GB none w w'/\∀ x,v'.ownBlock=some x->w.heap.size<=x):=by
 obtain ⟨a,c,rfl,hc,hl,hv⟩:=h;refine aj ah mixed Tryz.func41 rfl rfl ?_;rcases hv with ⟨rfl,rfl⟩ | ⟨b,off,cs,rfl,hb,hcut⟩
 ·obtain rfl:xs=[]:=List.eq_nil_of_length_eq_zero (by omega)
  exact ⟨eX _ _ _,GB.refl _ _,nofun⟩
 ·refine λ w1 b1 m1 g1 l1=>?_
  refine ⟨_,xs,⟨rfl,.inr ⟨b1,0,#[],rfl,Nat.zero_le _,m1,Nat.zero_le _,Nat.zero_le _,rfl,rfl⟩⟩,⟨_,_,g1.get hb nofun,hcut,hl,ho⟩,by omega,λ v' w2 ho2 g2 n2=>?_⟩;refine ⟨?_,g1.new g2 l1,λ x hx=>?_⟩
  ·have e:0+n=n:=Nat.zero_add n
   rw [e] at ho2;exact ho2
  ·rcases n2 x hx with e | e
   ·have e:some b1=some x:=e
    cases e;exact l1
   ·have:=g1.size;omega
theorem Oj (q:List bF) (t:Nat):(flat q).drop (t*5)=flat (q.drop t):=by
 induction q generalizing t with
 | nil=>simp [flat]
 | cons p q ih =>
  cases t with
  | zero=>simp
  | succ t =>
   rw [show flat (p::q)=p.cells++flat q by simp [flat],List.drop_append,show p.cells.length=5 from rfl,show (t+1)*5 - 5=t*5 by omega,ih];rw [List.drop_eq_nil_of_le (by show 5<=_;omega)];simp
theorem Qw (q:List bF):(flat q).all one=true:=by
 rw [List.all_eq_true];intro u hu;unfold flat at hu;obtain ⟨p,_,hp⟩:=List.mem_flatMap.1 hu;simp only [bF.cells,List.mem_cons,List.not_mem_nil,or_false] at hp;rcases hp with rfl | rfl | rfl | rfl | rfl <;> rfl
theorem aaE {w:World} {q:List bF} {sa:Option Addr} {sc:Nat} (h:w.ownsRow 0 97 5 (.slice sa q.length sc) q.length (flat q)) {t:Nat} (ht:t<=q.length):Fz w 97 5 (.slice (if sc=t then sa else sa.map (·.add (t*5))) (q.length - t) (sc - t)) (q.length - t) (flat (q.drop t)):=by
 have hl:(flat (q.drop t)).length=(q.length - t)*5:=by rw [XB,List.length_drop]
 rcases h.2 with ⟨e,h0⟩ | ⟨g,cap,cur,e,h0,h2,h3,h4,h5,h6⟩
 ·injection e with e1 _ e3
  subst e1;subst e3;exact ⟨none,0 - t,by split <;> rfl,by omega,hl,.inl ⟨rfl,by omega⟩⟩
 ·injection e with e1 _ e3
  subst e1;subst e3;by_cases c:sc=t
  ·have:q.length=t:=by omega
   refine ⟨_,_,rfl,by omega,hl,.inr ⟨g,0,cur,by rw [if_pos c],h2,?_⟩⟩;rw [show q.length - t=0 by omega,Nat.zero_mul,List.drop_eq_nil_of_le (by omega)];simp [aQ,flat]
  ·refine ⟨_,_,rfl,by omega,hl,.inr ⟨g,t*5,cur,by rw [if_neg c];simp [Addr.add];omega,h2,?_⟩⟩
   rw [<- Oj,<- h6];unfold aQ;rw [List.drop_take,Nat.sub_mul]
section
variable {Λ:bU} {w:World} {bc:Nat} {C:aL}
theorem oq (h:tK Λ bc C w) (hlen:C.q.length<=20000) (fr:Int) (hlo : -9223372036854775808<=fr) (hhi:fr<9223372036854775808):af Tryz.prog 13 #[Ptt bc,.int .i64 fr] w (λ v w'=>w'.ownsRow 0 97 5 v (C.q.length - min fr.toNat C.q.length) (flat (C.q.drop (min fr.toNat C.q.length)))/\GB none w w'/\∀ x,v.ownBlock=some x->w.heap.size<=x):=by
 obtain ⟨gv,sv,B,ad,h⟩:=h;refine aj ah mixed Tryz.func13 rfl rfl ?_;obtain ⟨sa,sc,rfl⟩:=ae h.ci.row;refine ⟨_,_,h.ci.eH,_,rfl,_,_,h.ci.eH,_,rfl,?_⟩;obtain ⟨t,et⟩:∃ t,t=min fr.toNat C.q.length:=⟨_,rfl⟩;rw [<- et];have hl:(if (C.q.length:Int)<(if (0:Int) > fr then 0 else fr) then (C.q.length:Int) else if (0:Int) > fr then 0 else fr)=(t:Int):=by
  split
  ·split at * <;> omega
  ·split at * <;> omega
 have hc:C.q.length<=sc:=by
  rcases h.ci.row.2 with ⟨e,h0⟩ | ⟨g,cap,cur,e,h0,h2,h3,_⟩
  ·omega
  ·injection e with _ _ e3;subst e3;exact h3
 have hz:=aaE h.ci.row (t:=t) (by omega);refine ⟨⟨by rw [hl];omega,by rw [hl];omega,hc⟩,?_⟩;refine ⟨_,?_,λ v w' hp=>hp⟩;have:=TC hz (Qw _) (by omega);have e:∀ l:Int,l=(t:Int)->af Tryz.prog 33 #[.slice (if sc=l.toNat then sa else sa.map (·.add (l.toNat*5))) (C.q.length - l.toNat) (sc - l.toNat)] w _:=λ l hl=>by subst hl;exact this
 exact e _ hl
end
section
variable {A:aT} (HA:bK A) {Λ:bU} {w:World} {bc:Nat} {C:aL}
include HA
end
def lf (l:List MC) (vs:List (Value×Value)):List Value:=(List.zipWith (λ c p=>dz c p.1 p.2) l vs).flatten
theorem kL (c:MC) (l:List MC) (p:Value×Value) (vs:List (Value×Value)):lf (c::l) (p::vs)=dz c p.1 p.2++lf l vs:=by simp [lf]
theorem Ol:∀ {l:List MC} {vs:List (Value×Value)} {k:Nat} {c:MC} {p:Value×Value},l[k]? = some c->vs[k]? = some p->aQ (lf l vs) (k*17) 17=dz c p.1 p.2
 | [],_,_,_,_,h,_=>by simp at h
 | _::_,[],_,_,_,_,h=>by simp at h
 | c::l,p::vs,0,_,_,h1,h2=>by
  simp at h1 h2;subst h1;subst h2;rw [kL];unfold aQ;simp [dz]
 | c::l,p::vs,k+1,_,_,h1,h2=>by
  rw [kL];unfold aQ;rw [List.drop_append,List.drop_eq_nil_of_le (by show 17<=_;omega),List.nil_append,show (dz c p.1 p.2).length=17 from rfl,show (k+1)*17 - 17=k*17 by omega];exact Ol (l:=l) (vs:=vs) (by simpa using h1) (by simpa using h2)
theorem Mj:∀ {l:List MC} {vs:List (Value×Value)} {k:Nat} {p:Value×Value} (rv:Value),k<l.length->vs[k]? = some p->(lf l vs).set (k*17+13) rv=lf l (vs.set k (rv,p.2))
 | [],_,_,_,_,h,_=>by simp at h
 | _::_,[],_,_,_,_,h=>by simp at h
 | c::l,p::vs,0,_,rv,_,h2=>by
  simp at h2;subst h2;rw [List.set_cons_zero,kL,kL,List.set_append_left _ _ (by show 0*17+13<17;omega)];rfl
 | c::l,p::vs,k+1,_,rv,h1,h2=>by
  rw [List.set_cons_succ,kL,kL,List.set_append_right _ _ (by show 17<=_;omega),show (k+1)*17+13 - (dz c p.1 p.2).length=k*17+13 by show _ - 17=_;omega];rw [Mj (l:=l) (vs:=vs) rv (by simpa using h1) (by simpa using h2)]
theorem Mk:∀ {l:List MC} {vs:List (Value×Value)} {k:Nat} {p:Value×Value} (dv:Value),k<l.length->vs[k]? = some p->(lf l vs).set (k*17+14) dv=lf l (vs.set k (p.1,dv))
 | [],_,_,_,_,h,_=>by simp at h
 | _::_,[],_,_,_,_,h=>by simp at h
 | c::l,p::vs,0,_,rv,_,h2=>by
  simp at h2;subst h2;rw [List.set_cons_zero,kL,kL,List.set_append_left _ _ (by show 0*17+14<17;omega)];rfl
 | c::l,p::vs,k+1,_,rv,h1,h2=>by
  rw [List.set_cons_succ,kL,kL,List.set_append_right _ _ (by show 17<=_;omega),show (k+1)*17+14 - (dz c p.1 p.2).length=k*17+14 by show _ - 17=_;omega];rw [Mk (l:=l) (vs:=vs) rv (by simpa using h1) (by simpa using h2)]
theorem Ml {w:World}:∀ {l:List MC} {vs:List (Value×Value)},(∀ (i:Nat) (c:MC) (p:Value×Value),l[i]? = some c->vs[i]? = some p->aM w c.r p.1 p.2)->(lf l vs).all one=true
 | [],_,_=>rfl
 | _::_,[],_=>rfl
 | c::l,p::vs,h=>by
  rw [kL,List.all_append,Ml (l:=l) (vs:=vs) λ i c p h1 h2=>h (i+1) c p (by simpa using h1) (by simpa using h2),Bool.and_true];obtain ⟨rv,dv⟩:=p;obtain ⟨ra,rn,rc,da,dn,dc,e1,e2⟩:=(h 0 c (rv,dv) rfl rfl).sl;have e1:rv=_:=e1;have e2:dv=_:=e2;subst e1;subst e2;rfl
theorem fJ {xs:List Value} {off:Nat} {v:Value} (hv:one v=true) (hc:v.cells.toList=[v]) (h:off<xs.length):Fy xs off 1 v=true:=by
 unfold Fy;rw [hc];simp [hv];exact h
theorem WL {w w':World} {e:TypeId} {size n g cap off:Nat} {xs:List Value} {v:Value} {cur:Array Value} (h:w.ownsRow 0 e size (.slice (some ⟨g,0,none⟩) n cap) n xs) (aR:w.heap[g]? = some (.cells cur e)) (hw:w'.heap[g]? = some (.cells (cur.toList.take off++[v]++cur.toList.drop (off+1)).toArray e)) (ho:off<n*size):w'.ownsRow 0 e size (.slice (some ⟨g,0,none⟩) n cap) n (xs.set off v):=by
 rcases h.2 with ⟨q,h0⟩ | ⟨g',cap',cur',q,h0,h2,h3,h4,h5,h6⟩
 ·cases q
 ·injection q with q1 _ q3
  injection q1 with q1;injection q1 with q1;subst q1;subst q3;rw [aR] at h2;injection h2 with h2;injection h2 with h2 _;subst h2;have hlen:xs.length=n*size:=h.1;have hl:n*size<=cur.toList.length:=by
   have:=congrArg List.length h6;rw [List.length_take] at this;omega
  have hs:cur.toList.take off++[v]++cur.toList.drop (off+1)=cur.toList.set off v:=by
   rw [List.set_eq_take_append_cons_drop,if_pos (by omega)];simp
  rw [hs] at hw;refine ⟨by rw [List.length_set];exact hlen,.inr ⟨g,cap,_,rfl,h0,hw,h3,h4,?_,?_⟩⟩
  ·simp [h5]
  ·show (cur.toList.set off v).take (n*size)=_
   rw [List.take_set,h6]
theorem jd {α:Type} {f:α->List Value} (hf:∀ x,(f x).all one=true) (l:List α):(l.map f).flatten.all one=true:=by
 induction l with
 | nil=>rfl
 | cons x l ih=>rw [List.map_cons,List.flatten_cons,List.all_append,hf,ih];rfl
theorem own_set' {w w':World} {e:TypeId} {size n g cap off:Nat} {xs:List Value} {v:Value} {cur:Array Value} (h:w.ownsRow 0 e size (.slice (some ⟨g,0,none⟩) n cap) n xs) (aR:w.heap[g]? = some (.cells cur e)) {off' s1:Nat} {vc:List Value} (hw:w'.heap[g]? = some (.cells (cur.toList.take off'++vc++cur.toList.drop (off'+s1)).toArray e)) (e1:off'=off) (e2:s1=1) (e3:vc=[v]) (ho:off<n*size):w'.ownsRow 0 e size (.slice (some ⟨g,0,none⟩) n cap) n (xs.set off v):=by
 subst e1;subst e2;subst e3;exact WL h aR hw ho
section
variable {A:aT} (HN:gJ A) {Λ:bU} {w:World} {bc:Nat} {C:aL}
include HN
theorem aaF (h:tK Λ bc C w) (hf:C.aK A) (g i:Nat) (hg:g<C.n) (hi:i<C.sz):af Tryz.prog 18 #[Ptt bc,.agg #[.int .u8 g,.int .u8 i]] w (λ v w'=>mR w' v (C.F g i).log/\GB none w w'/\∀ x,v.ownBlock=some x->w.heap.size<=x):=by
 obtain ⟨gv,sv,B,ad,h⟩:=h;have hn:=hf.n;have hz:=hf.sz;have hok:=hf.ok g i hg hi;have hll:=hok.lg;refine aj ah mixed Tryz.func18 rfl rfl ?_;refine λ w1 b1 m1 g1 l1=>?_
 have h1:=h.ax g1;refine ⟨_,_,m1,[.int .u8 g,.int .u8 i],rfl,rfl,_,find_ok h1.ci hf.n hf.sz g i (by omega) (by omega),?_⟩;rintro _ w2 ⟨rfl,g2⟩;rw [if_pos ⟨hg,hi⟩];have h2:=h1.ax g2;have hR:=h2.ci.rep g i hg hi;obtain ⟨vs,v1,v2,v3⟩:=hR.lg;refine ⟨_,_,hR.mem,_,rfl,_,TD (lG v2) (Ml v3) (by omega),?_⟩;rintro lv w3 ⟨o3,g3,n3⟩;have G3:=(g1.trans g2).trans g3;have L3:mR w3 lv (C.F g i).log:=⟨vs,v1,o3,λ i c p a b=>(v3 i c p a b).kz g3.kz⟩;obtain ⟨la,lc,rfl⟩:=ae o3;have n3':∀ x,(Value.slice la (C.F g i).log.length lc).ownBlock=some x->w.heap.size<=x:=λ x hx=>by have:=n3 x hx;have:=(g1.trans g2).size;omega
 clear o3 v3 v2 v1 vs;refine ⟨λ m s wk=>∃ k:Nat,m=(C.F g i).log.length - k/\k<=(C.F g i).log.length/\s=[(6,.slice la (C.F g i).log.length lc),(19,.slice la (C.F g i).log.length lc),(20,.int .i64 (C.F g i).log.length),(21,.int .i64 k)]/\mR wk (.slice la (C.F g i).log.length lc) (C.F g i).log/\GB none w wk,⟨_,_,⟨0,rfl,Nat.zero_le _,rfl,L3,G3⟩,rfl,rfl,rfl,rfl,trivial⟩,?_⟩;rintro m s wk ⟨k,rfl,hk,rfl,⟨vs,v1,v2,v3⟩,gk⟩;refine au (λ c=>?_) (λ c=>?_)
 ·have c1:k<(C.F g i).log.length:=by simp at c;omega
  obtain ⟨c,hc⟩:∃ c,(C.F g i).log[k]? = some c:=⟨(C.F g i).log[k],by simp [c1]⟩;obtain ⟨p,hp⟩:∃ p,vs[k]? = some p:=⟨vs[k],by simp [v1,c1]⟩;obtain ⟨gb,cap,cur,ev,aR,htk,hsz,hcap⟩:=jD v2 (by omega);injection ev with ev _ Qy;subst ev;subst Qy;have hel:aQ cur.toList (k*17) 17=dz c p.1 p.2:=by
   rw [<- Ol hc hp,show lf (C.F g i).log vs=_ from htk.symm];unfold aQ;rw [List.drop_take,List.take_take,Nat.min_eq_left (by omega)]
  have hrg:=v3 k c p hc hp;obtain ⟨rb1,rb2⟩:=HN.rl c (hok.lc c (List.mem_of_getElem? hc));obtain ⟨rv,dv⟩:=p;obtain ⟨ra,rn,rc,da,dn,dc,e1,e2⟩:=hrg.sl;have e1:rv=_:=e1;have e2:dv=_:=e2;subst e1;subst e2;have lgb:w.heap.size<=gb:=n3' gb rfl;refine ⟨⟨by omega,by omega⟩,_,_,aR,dz c _ _,by show aQ cur.toList (0+k*17) 17=_;rw [Nat.zero_add];exact hel,rfl,λ w4 b4 m4 g4 l4=>⟨_,_,_,m4,rfl,rfl,λ w5 m5 g5=>?_⟩⟩;have Vb:GB none wk w5:=g4.new g5 l4;have nb:gb≠b4:=by have:=ag aR;omega
  refine ⟨_,_,m5,_,rfl,_,Qu (hrg.1.kz Vb.kz (by decide)) (jd (λ _=>rfl) _) (by omega),?_⟩;rintro rv' w6 ⟨o6,g6,n6⟩;have Ah:=Vb.trans g6;have uh:=Ah.get aR nofun;obtain ⟨su,rc',rfl⟩:=ae o6;refine ⟨⟨by omega,by omega⟩,_,_,_,uh,fJ rfl rfl (by rw [Array.length_toList];show 0+k*17+13<_;omega),rfl,λ w7 m7 g7=>?_⟩;have o7:=own_set' (off:=k*17+13) (aA v2 λ x hx=>by cases hx;exact Ah.block gb (ag aR) nofun) uh m7 (by show 0+(k:Int).toNat*17+8+5=_;omega) rfl rfl (by omega);rw [show (List.zipWith (λ (c:MC) (p:Value×Value)=>dz c p.1 p.2) (C.F g i).log vs).flatten=lf (C.F g i).log vs from rfl,Mj _ c1 hp] at o7;have m57:w7.heap[b4]? = _:=g7.get (g6.get m5 nofun) λ e=>nb (Option.some.inj e).symm
  have PX:Kz w6 w7:=g7.BX λ c' t ht hc'=>by rw [uh] at hc';injection hc' with hc';injection hc' with _ hc';subst hc';revert ht;decide
  have G7:GB none w w7:=(gk.trans Ah).new g7 lgb;have r7:=(lG o6).kz PX (by decide);refine ⟨_,_,m57,_,rfl,_,Qv ((hrg.2.kz Ah.kz (by decide)).kz PX (by decide)) (jd (λ _=>rfl) _) (by omega),?_⟩;rintro dS w8 ⟨o8,g8,n8⟩;have Om:=g8.get m7 nofun;obtain ⟨rZ,r9,rfl⟩:=ae o8;refine ⟨⟨by omega,by omega⟩,_,_,_,Om,fJ rfl rfl ?_,rfl,λ w9 m9 g9=>?_⟩
  ·rw [Array.length_toList]
   obtain ⟨g7',_,afQ,e7,Mm,_,hs7,_⟩:=jD o7 (by omega);injection e7 with e7 _ _;injection e7 with e7;injection e7 with e7;subst e7;rw [m7] at Mm;injection Mm with Mm;injection Mm with Mm _;rw [Mm];show 0+(k:Int).toNat*17+8+6<_;omega
  have o9:=own_set' (off:=k*17+14) (aA o7 λ x hx=>by cases hx;exact g8.block gb (ag m7) nofun) Om m9 (by show 0+(k:Int).toNat*17+8+6=_;omega) rfl rfl (by omega);have hp':(vs.set k (Value.slice su c.r.rows.length rc',Value.slice da dn dc))[k]? = some (Value.slice su c.r.rows.length rc',Value.slice da dn dc):=by simp [v1,c1]
  rw [Mk _ c1 hp',List.set_set] at o9;have Zb:Kz w8 w9:=g9.BX λ c' t ht hc'=>by rw [Om] at hc';injection hc' with hc';injection hc' with _ hc';subst hc';revert ht;decide
  have k09:Kz wk w9:=((Ah.kz.trans PX).trans g8.kz).trans Zb;refine ⟨by omega,_,_,⟨k+1,rfl,by omega,rfl,⟨_,by rw [List.length_set];exact v1,o9,λ j c' p' h1 h2=>?_⟩,(G7.trans g8).new g9 lgb⟩,⟨rfl,rfl,rfl,rfl,trivial⟩,by omega⟩;by_cases e:j=k
  ·subst e
   rw [hc] at h1;cases h1
   rw [List.getElem?_set_self (by rw [v1];exact c1)] at h2;cases h2
   exact ⟨(r7.kz g8.kz (by decide)).kz Zb (by decide),(lG o8).kz Zb (by decide)⟩
  ·rw [List.getElem?_set_ne (λ h=>e h.symm)] at h2
   exact (v3 j c' p' h1 h2).kz k09
 ·exact ⟨⟨vs,v1,v2,v3⟩,gk,n3'⟩
end
abbrev Ra:=Rg×Value×Value
abbrev tO (x:Ra):List Value:=eO x.1 x.2.1 x.2.2
structure qO (w0 w:World) (x:Ra):Prop where
 r:LN 139 2 w0 w x.2.1 x.1.rows.length (x.1.rows.map Row.cells).flatten
 d:LN 70 7 w0 w x.2.2 x.1.aY.length (x.1.aY.map az.cells).flatten
structure QN (w0 w:World) (q:Value) (rs:List Ra):Prop where
 q:LN 78 7 w0 w q rs.length (rs.map tO).flatten
 r:∀ x∈rs,qO w0 w x
theorem JH {α:Type} {f:α->List Value} {size:Nat} (hf:∀ x,(f x).length=size) {j:Nat} (hj:j<size) {x x':α} {v:Value} (hx:(f x).set j v=f x'):∀ (l:List α) (i:Nat),l[i]? = some x->(l.map f).flatten.set (i*size+j) v=((l.set i x').map f).flatten
 | [],_,h=>by simp at h
 | y::l,0,h=>by
  simp at h;subst h;rw [List.set_cons_zero,List.map_cons,List.map_cons,List.flatten_cons,List.flatten_cons,Nat.zero_mul,Nat.zero_add,List.set_append_left _ _ (by rw [hf];exact hj),hx]
 | y::l,i+1,h=>by
  rw [List.set_cons_succ,List.map_cons,List.map_cons,List.flatten_cons,List.flatten_cons,List.set_append_right _ _ (by rw [hf,Nat.succ_mul];omega),hf,show (i+1)*size+j - size=i*size+j by rw [Nat.succ_mul];omega];rw [JH hf hj hx l i (by simpa using h)]
section
variable {e size:Nat} {w0 w w':World} {v:Value} {n:Nat} {xs:List Value}
theorem LN.bS (h:LN e size w0 w v n xs) {x t:Nat} {c:Array Value} (g:GB (some x) w w') (hx:w.heap[x]? = some (.cells c t)) (ht:t≠e) (hn:w0.heap.size<=x):LN e size w0 w' v n xs :=
 ⟨aA h.own λ y hy=>by obtain ⟨c',hc⟩:=aD h.own hy;exact g.block y (ag hc) λ z=>df hc hx ht.symm (Option.some.inj z),h.gb.new g hn,h.new⟩
theorem LN.base {wb:World} (h:LN e size w0 w v n xs) (g:GB none wb w0):LN e size wb w v n xs:=⟨h.own,g.trans h.gb,λ x hx=>Nat.le_trans g.size (h.new x hx)⟩
theorem qO.ax {x:Ra} (h:qO w0 w x) (g:GB none w w'):qO w0 w' x:=⟨h.r.ax g,h.d.ax g⟩
theorem qO.bS {y:Ra} (h:qO w0 w y) {x t:Nat} {c:Array Value} (g:GB (some x) w w') (hx:w.heap[x]? = some (.cells c t)) (h1:t≠139) (h2:t≠70) (hn:w0.heap.size<=x):qO w0 w' y:=⟨h.r.bS g hx h1 hn,h.d.bS g hx h2 hn⟩
theorem QN.ax {q:Value} {rs:List Ra} (h:QN w0 w q rs) (g:GB none w w'):QN w0 w' q rs:=⟨h.q.ax g,λ x hx=>(h.r x hx).ax g⟩
theorem QN.bS {q:Value} {rs:List Ra} (h:QN w0 w q rs) {x t:Nat} {c:Array Value} (g:GB (some x) w w') (hx:w.heap[x]? = some (.cells c t)) (h1:t≠139) (h2:t≠70) (h3:t≠78) (hn:w0.heap.size<=x):QN w0 w' q rs:=⟨h.q.bS g hx h3 hn,λ y hy=>(h.r y hy).bS g hx h1 h2 hn⟩
end
theorem tF.ra {w:World} {q:Value} {l:List Rg} (h:tF w q l):∃ ps:List Ra,ps.map (·.1)=l/\Fz w 78 7 q ps.length (ps.map tO).flatten/\∀ x∈ps,aM w x.1 x.2.1 x.2.2:=by
 obtain ⟨vs,h1,h2,h3⟩:=h;have hz:List.zipWith (λ r (p:Value×Value)=>eO r p.1 p.2) l vs=(l.zip vs).map tO:=by
  rw [List.zip_eq_zipWith,List.map_zipWith]
 refine ⟨l.zip vs,List.map_fst_zip (by omega),?_,λ x hx=>?_⟩
 ·rw [<- hz,show (l.zip vs).length=l.length by rw [List.length_zip];omega];exact h2
 ·obtain ⟨i,hi,rfl⟩:=List.getElem_of_mem hx
  have e:=List.getElem?_eq_getElem hi;rw [List.getElem?_zip_eq_some] at e;exact h3 i _ _ e.1 e.2
theorem WM {w:World} {ps:List Ra} (h:∀ x∈ps,aM w x.1 x.2.1 x.2.2):(ps.map tO).flatten.all one=true:=by
 induction ps with
 | nil=>rfl
 | cons x l ih =>
  rw [List.map_cons,List.flatten_cons,List.all_append,ih λ y hy=>h y (List.mem_cons_of_mem _ hy),Bool.and_true];obtain ⟨r,rv,dv⟩:=x;obtain ⟨ra,rn,rc,da,dn,dc,e1,e2⟩:=(h (r,rv,dv) List.mem_cons_self).sl;have e1:rv=_:=e1;have e2:dv=_:=e2;subst e1;subst e2;rfl
theorem LN.at {e size:Nat} {w0 w:World} {v:Value} {α:Type} {f:α->List Value} {l:List α} (h:LN e size w0 w v l.length (l.map f).flatten) (hf:∀ x,(f x).length=size) {i:Nat} {x:α} (hx:l[i]? = some x):∃ g cap cur,v=.slice (some ⟨g,0,none⟩) l.length cap/\w0.heap.size<=g/\w.heap[g]? = some (.cells cur e)/\aQ cur.toList (0+(i:Int).toNat*size) size=f x/\l.length*size<=cur.size:=by
 have hi:=(List.getElem?_eq_some_iff.1 hx).1;obtain ⟨g,cap,cur,ev,aR,htk,hsz,hcap⟩:=jD h.own (by omega);subst ev;refine ⟨g,cap,cur,rfl,h.new g rfl,aR,?_,hsz⟩;refine kD hf hx ?_;unfold aQ;rw [List.drop_zero];exact htk
theorem LN.set {e size:Nat} {w0 w w':World} {α:Type} {f:α->List Value} {l:List α} {g cap:Nat} {cur:Array Value} (h:LN e size w0 w (.slice (some ⟨g,0,none⟩) l.length cap) l.length (l.map f).flatten) (hf:∀ x,(f x).length=size) (aR:w.heap[g]? = some (.cells cur e)) {i j:Nat} {x x':α} {v:Value} (hx:l[i]? = some x) (hj:j<size) (hxx:(f x).set j v=f x') {off' s1:Nat} {vc:List Value} (hw:w'.heap[g]? = some (.cells (cur.toList.take off'++vc++cur.toList.drop (off'+s1)).toArray e)) (e1:off'=i*size+j) (e2:s1=1) (e3:vc=[v]) (gb:GB (some g) w w'):LN e size w0 w' (.slice (some ⟨g,0,none⟩) (l.set i x').length cap) (l.set i x').length ((l.set i x').map f).flatten:=by
 have hi:=(List.getElem?_eq_some_iff.1 hx).1;have h2:(i+1)*size<=l.length*size:=Nat.mul_le_mul_right _ hi;rw [Nat.succ_mul] at h2;have:=own_set' h.own aR hw e1 e2 e3 (by omega);rw [JH hf hj hxx l i hx] at this;rw [List.length_set];exact ⟨this,h.gb.new gb (h.new g rfl),h.new⟩
theorem iV {α:Type} {l:List α} {i j:Nat} {x:α} (hi:i<l.length):(l.set i x)[j]? = if j=i then some x else l[j]?:=by
 by_cases h:j=i
 ·subst h;rw [if_pos rfl];simp [hi]
 ·rw [if_neg h,List.getElem?_set_ne (λ e=>h e.symm)]
theorem Qz {w:World} {q:Value} {l:List Rg} (h:tF w q l) (hl:l.length<=100000) (hs:∀ r∈l,r.rows.length<=1000000/\r.aY.length<=1000000):af Tryz.prog 98 #[q] w (λ v w'=>∃ rs:List Ra,rs.map (·.1)=l/\QN w w' v rs):=by
 obtain ⟨ps,rfl,hf,hr⟩:=h.ra;rw [List.length_map] at hl;obtain ⟨qa,qc,rfl,hrest⟩:=hf;have hf:Fz w 78 7 (.slice qa ps.length qc) ps.length (ps.map tO).flatten:=⟨qa,qc,rfl,hrest⟩;refine aj ah mixed Tryz.func98 rfl rfl ?_;refine ⟨_,Qm hf (WM hr) (by omega),?_⟩;intro v w1 L;obtain ⟨va,vc,rfl⟩:=ae L.own;refine ⟨λ n s wk=>∃ (i:Nat) (rs:List Ra),n=ps.length - i/\i<=ps.length/\s=[(0,.slice va ps.length vc),(7,.slice va ps.length vc),(8,.int .i64 ps.length),(9,.int .i64 i)]/\rs.length=ps.length/\rs.map (·.1)=ps.map (·.1)/\LN 78 7 w wk (.slice va rs.length vc) rs.length (rs.map tO).flatten/\(∀ j x,j<i->rs[j]? = some x->qO w wk x)/\(∀ j,i<=j->rs[j]? = ps[j]?),⟨_,_,⟨0,ps,rfl,Nat.zero_le _,rfl,rfl,rfl,L,λ _ _ h=>by omega,λ _ _=>rfl⟩,rfl,rfl,rfl,rfl,trivial⟩,?_⟩;clear L;rintro n s wk ⟨i,rs,rfl,hi,rfl,hlen,hmap,L,hnew,hold⟩;refine au (λ d=>?_) (λ d=>?_)
 ·have d1:i<ps.length:=by have:=of_decide_eq_true d;omega
  obtain ⟨⟨r,rv,dv⟩,hx⟩:∃ x,ps[i]? = some x:=⟨ps[i],by simp [d1]⟩;have hx':rs[i]? = some (r,rv,dv):=(hold i (Nat.le_refl _)).trans hx;have hmem:=List.mem_of_getElem? hx;have hrg:=hr _ hmem;obtain ⟨ra,rn,rc,da,dn,dc,e1,e2⟩:=hrg.sl;have e1:rv=_:=e1;have e2:dv=_:=e2;subst e1 e2;obtain ⟨hb1,hb2⟩:=hs r (List.mem_map.2 ⟨_,hmem,rfl⟩);obtain ⟨g,cap,cur,ev,hg,aR,hcut,hsz⟩:=L.at (f:=tO) (λ _=>rfl) hx';injection ev with ea _ ec;subst ea ec;refine ⟨⟨by omega,by omega⟩,_,_,aR,eO r (.slice ra rn rc) (.slice da dn dc),hcut,rfl,λ w2 b2 m2 g2 l2=>⟨_,_,_,m2,rfl,rfl,λ w3 m3 g3=>?_⟩⟩;have G3:=g2.new g3 l2;have nb:g≠b2:=by have:=ag aR;omega
  have L3:=L.ax G3;have aaG:=G3.get aR nofun;have Gw:=L3.gb;refine ⟨_,_,m3,_,rfl,_,GD (hrg.1.kz Gw.kz (by decide)) (jd (λ _=>rfl) _) hb1,?_⟩;intro rv' w4 R4;obtain ⟨su,rc',rfl⟩:=ae R4.own;have qD:=R4.gb.get aaG nofun;have L4:=L3.ax R4.gb;refine ⟨⟨by omega,by omega⟩,_,_,_,qD,fJ rfl rfl (by rw [Array.length_toList];show 0+(i:Int).toNat*7+5<_;omega),rfl,λ w5 m5 g5=>?_⟩;have hi7:0+(i:Int).toNat*7+5=i*7+5:=by omega
  have hi8:0+(i:Int).toNat*7+6=i*7+6:=by omega
  have L5:=L4.set (f:=tO) (x':=(r,.slice su r.rows.length rc',.slice da dn dc)) (λ _=>rfl) qD hx' (by decide) rfl m5 hi7 rfl rfl g5;have R5:=(R4.base Gw).bS g5 qD (by decide) hg;have Y0:w5.heap[b2]? = _:=g5.get (R4.gb.get m3 nofun) λ e=>nb (Option.some.inj e).symm
  have D5:=((hrg.2.kz Gw.kz (by decide)).kz R4.gb.kz (by decide)).bS g5 qD (by decide);refine ⟨_,_,Y0,_,rfl,_,GH D5 (jd (λ _=>rfl) _) hb2,?_⟩;intro dS w6 R6;obtain ⟨rZ,r9,rfl⟩:=ae R6.own;have hx6:(rs.set i (r,Value.slice su r.rows.length rc',Value.slice da dn dc))[i]? = some (r,.slice su r.rows.length rc',.slice da dn dc):=by rw [iV (by omega),if_pos rfl]
  have L6:=L5.ax R6.gb;obtain ⟨g',cap',afR,ev6,hg6,uh,afB,ade⟩:=L6.at (f:=tO) (λ _=>rfl) hx6;injection ev6 with QA _ ec6;injection QA with QA;injection QA with QA;subst QA ec6;rw [List.length_set] at ade;refine ⟨⟨by omega,by omega⟩,_,_,_,uh,fJ rfl rfl (by rw [Array.length_toList];show 0+(i:Int).toNat*7+6<_;omega),rfl,λ w7 m7 g7=>?_⟩;have L7:=L6.set (f:=tO) (x':=(r,.slice su r.rows.length rc',.slice rZ r.aY.length r9)) (λ _=>rfl) uh hx6 (by decide) rfl m7 hi8 rfl rfl g7;rw [List.set_set] at L7;have Rn:qO w w7 (r,.slice su r.rows.length rc',.slice rZ r.aY.length r9):=⟨(R5.ax R6.gb).bS g7 uh (by decide) hg,(R6.base L5.gb).bS g7 uh (by decide) hg⟩;have stay:∀ x,qO w wk x->qO w w7 x:=λ x h=>((((h.ax G3).ax R4.gb).bS g5 qD (by decide) (by decide) hg).ax R6.gb).bS g7 uh (by decide) (by decide) hg
  refine ⟨⟨by omega,by omega⟩,_,_,⟨i+1,rs.set i (r,.slice su r.rows.length rc',.slice rZ r.aY.length r9),rfl,by omega,rfl,by rw [List.length_set];exact hlen,?_,L7,λ j x hj hxj=>?_,λ j hj=>?_⟩,⟨rfl,rfl,rfl,rfl,trivial⟩,by omega⟩
  ·rw [List.map_set,hmap]
   refine List.ext_getElem? λ k=>?_
   rw [iV (by rw [List.length_map];exact d1)];split
   ·rename_i h;subst h;rw [List.getElem?_map,hx];rfl
   ·rfl
  ·rw [iV (by omega)] at hxj
   split at hxj
   ·cases hxj;exact Rn
   ·exact stay x (hnew j x (by omega) hxj)
  ·rw [iV (by omega),if_neg (by omega)]
   exact hold j (by omega)
 ·have d1:i=ps.length:=by have:=of_decide_eq_false d;omega
  rw [<- hlen] at d1;refine ⟨rs,hmap,by rw [<- hlen];exact L,λ x hx=>?_⟩;obtain ⟨j,hj,rfl⟩:=List.getElem_of_mem hx;exact hnew j _ (by omega) (List.getElem?_eq_getElem hj)
abbrev La:=Int×Value×List Ra
abbrev lN (l:La):List Value:=[.int .u32 l.1,l.2.1]
abbrev Mo (l:La):Int×List Rg:=(l.1,l.2.2.map (·.1))
abbrev ik (s:St) (T M D O I:Value):List Value:=[.int .u8 s.g,.int .u8 s.n,T,M,D,O,I]
structure SA (w0 w:World) (s:St) (T M D O I:Value) (ls:List La):Prop where
 t:LN 139 2 w0 w T s.T.length (s.T.map Row.cells).flatten
 m:PN w0 w M s.M
 d:LN 70 7 w0 w D s.D.length (s.D.map az.cells).flatten
 o:LN 62 2 w0 w O ls.length (ls.map lN).flatten
 i:LN 59 1 w0 w I s.I.length (s.I.map λ i=>Value.int .u32 i)
 q:∀ l∈ls,QN w0 w l.2.1 l.2.2
 core:ls.map Mo=s.O
 sT:∀ l∈ls,∀ x∈l.2.2,∀ g,T.ownBlock=some g->x.2.1.ownBlock≠some g
 sD:∀ l∈ls,∀ x∈l.2.2,∀ g,D.ownBlock=some g->x.2.2.ownBlock≠some g
 sQ:∀ (i j:Nat) (l l':La),i≠j->ls[i]? = some l->ls[j]? = some l'->∀ g,l.2.1.ownBlock=some g->l'.2.1.ownBlock≠some g
structure Zc (s:St):Prop where
 t:s.T.length<=100000
 d:s.D.length<=100000
 m:s.M.length<=1000
 o:s.O.length<=100
 i:s.I.length<=100
 q:∀ x∈s.O,x.2.length<=100000/\∀ r∈x.2,r.rows.length<=1000000/\r.aY.length<=1000000
theorem jZ.la {w:World} {vT vM vD vO vI:Value} {s:St} (h:jZ w vT vM vD vO vI s):∃ ps:List La,ps.length=s.O.length/\Fz w 62 2 vO ps.length (ps.map lN).flatten/\(∀ (j:Nat) (l:La),ps[j]? = some l->∃ o,s.O[j]? = some o/\l.1=o.1/\tF w l.2.1 o.2):=by
 obtain ⟨qs,h1,h2,h3⟩:=h.O;have hl:(List.zipWith (λ (o:Int×List Rg) q=>((o.1,q,[]):La)) s.O qs).length=s.O.length:=by rw [List.length_zipWith];omega
 refine ⟨List.zipWith (λ (o:Int×List Rg) q=>((o.1,q,[]):La)) s.O qs,hl,?_,λ j l hj=>?_⟩
 ·rw [hl,List.map_zipWith];exact h2
 ·rw [List.getElem?_zipWith] at hj
  cases ho:s.O[j]? with
  | none=>rw [ho] at hj;simp at hj
  | some o =>
   cases hq:qs[j]? with
   | none=>rw [ho,hq] at hj;simp at hj
   | some q =>
    rw [ho,hq] at hj;simp at hj;subst hj;exact ⟨o,rfl,rfl,h3 j o q ho hq⟩
theorem WN {w:World} {ps:List La} (h:∀ l∈ps,∃ rs,tF w l.2.1 rs):(ps.map lN).flatten.all one=true:=by
 induction ps with
 | nil=>rfl
 | cons x l ih =>
  rw [List.map_cons,List.flatten_cons,List.all_append,ih λ y hy=>h y (List.mem_cons_of_mem _ hy),Bool.and_true];obtain ⟨n,q,rs⟩:=x;obtain ⟨rs',vs,_,⟨a,c,e,_⟩,_⟩:=h _ List.mem_cons_self;have e:q=_:=e;subst e;rfl
theorem zip_map' {α β γ:Type} (f:α->β->γ):∀ l:List (α×β),List.zipWith f (l.map (·.1)) (l.map (·.2))=l.map λ x=>f x.1 x.2
 | []=>rfl
 | _::l=>by simp only [List.map_cons,List.zipWith_cons_cons,zip_map' f l]
section
variable {w0 w w':World} {s:St} {T M D O I:Value} {ls:List La}
theorem SA.ax (h:SA w0 w s T M D O I ls) (g:GB none w w'):SA w0 w' s T M D O I ls:=⟨h.t.ax g,h.m.ax g,h.d.ax g,h.o.ax g,h.i.ax g,λ l hl=>(h.q l hl).ax g,h.core,h.sT,h.sD,h.sQ⟩
theorem SA.bS (h:SA w0 w s T M D O I ls) {x t:Nat} {c:Array Value} (g:GB (some x) w w') (hx:w.heap[x]? = some (.cells c t)) (h1:t≠139) (h2:t≠70) (h3:t≠78) (h4:t≠153) (h5:t≠62) (h6:t≠59) (hn:w0.heap.size<=x):SA w0 w' s T M D O I ls:=⟨h.t.bS g hx h1 hn,h.m.bS g hx h4 hn,h.d.bS g hx h2 hn,h.o.bS g hx h5 hn,h.i.bS g hx h6 hn,λ l hl=>(h.q l hl).bS g hx h1 h2 h3 hn,h.core,h.sT,h.sD,h.sQ⟩
theorem Fz.over {e size n:Nat} {v:Value} {xs:List Value} (h:LN e size w0 w v n xs) (k:∀ x,w0.heap.size<=x->x<w.heap.size->w'.heap[x]? = w.heap[x]?):Fz w' e size v n xs:=lG (aA h.own λ x hx=>by obtain ⟨c,hc⟩:=aD h.own hx;exact k x (h.new x hx) (ag hc))
theorem QN.over {q:Value} {rs:List Ra} (h:QN w0 w q rs) (k:∀ x,w0.heap.size<=x->x<w.heap.size->w'.heap[x]? = w.heap[x]?):tF w' q (rs.map (·.1)):=by
 refine ⟨rs.map (·.2),by simp,?_,λ i x p hx hp=>?_⟩
 ·rw [zip_map' (λ r (p:Value×Value)=>eO r p.1 p.2),List.length_map]
  exact Fz.over h.q k
 ·rw [List.getElem?_map] at hx hp
  cases ha:rs[i]? with
  | none=>rw [ha] at hx;cases hx
  | some y =>
   rw [ha] at hx hp;cases hx;cases hp
   have:=h.r y (List.mem_of_getElem? ha);exact ⟨Fz.over this.r k,Fz.over this.d k⟩
theorem SA.over (h:SA w0 w s T M D O I ls) (k:∀ x,w0.heap.size<=x->x<w.heap.size->w'.heap[x]? = w.heap[x]?):jZ w' T M D O I s:=by
 have hO:=h.core;refine ⟨Fz.over h.t k,Fz.over h.m k,Fz.over h.d k,⟨ls.map (·.2.1),by rw [<- hO];simp,?_,λ i o q ho hq=>?_⟩,Fz.over h.i k⟩
 ·have e:List.zipWith (λ (o:Int×List Rg) q=>[Value.int .u32 o.1,q]) s.O (ls.map (·.2.1))=ls.map lN:=by
   rw [<- hO];clear hO h;induction ls with
   | nil=>rfl
   | cons x l ih=>rw [List.map_cons,List.map_cons,List.zipWith_cons_cons,ih];rfl
  rw [e,<- hO,List.length_map];exact Fz.over h.o k
 ·rw [<- hO,List.getElem?_map] at ho
  rw [List.getElem?_map] at hq;cases hl:ls[i]? with
  | none=>rw [hl] at ho;cases ho
  | some l =>
   rw [hl] at ho hq;cases ho;cases hq
   exact QN.over (h.q l (List.mem_of_getElem? hl)) k
end
end
end Go.Proofs.YtignemioillaiabGreat
