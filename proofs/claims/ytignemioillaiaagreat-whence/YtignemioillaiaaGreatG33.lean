/- A packet arrives: Deliver. -/
import Derived.Test.YtignemioillaiaaGreatG31
import Derived.Test.YtignemioillaiaaGreatG32
namespace Go.Proofs.YtignemioillaiaaGreat
set_option maxHeartbeats 8000000
set_option maxRecDepth 100000
section
open Go Go.Conc
theorem V6{q:List bH}{k:Nat}{p:bH}(h:q[k]? = some p){cur:List Value}(ht:cur.take (q.length*5)=flat q):aJ cur (k*5) 5=p.cells:=by
 have h1:=jB (f:=bH.cells) (size:=5) (λ_=>rfl) q k p h;have hk:k<q.length:=(List.getElem?_eq_some_iff.1 h).1;rw[<-h1,show q.flatMap bH.cells=flat q from rfl,<-ht];unfold aJ;rw[List.drop_take,List.take_take,Nat.min_eq_left (by omega)]
section
variable{w:World}
theorem Rj{b4 b1 br:Nat}{p:bH}{Post:Value->World->Prop}(h4:w.heap[b4]? = some (.cells #[Ptt br] 133))(h1:w.heap[b1]? = some (.cells p.cells.toArray 139))(hc:ag Tryz.prog 65 #[Ptt br,.agg p.cells.toArray] w (λv w'=>v=.tuple #[]/\Post (.tuple #[]) w')):ag Tryz.prog 64 #[Ptt b4,Ptt b1] w Post:=by
 refine aj ah mixed Tryz.func64 rfl rfl ?_;refine⟨_,_,h4,_,rfl,_,_,h1,p.cells,rfl,rfl,_,hc,?_⟩;rintro _ w' ⟨rfl,hp⟩;exact hp
end
def aM.eG(A:aR)(C:aM)(k:Int):aM:=if 0<=k then C.jH A k.toNat else C
section
variable{A:aR}(HA:bG A)(HN:dL A){Λ:bU}{w:World}{bc:Nat}{C:aM}
include HA HN
theorem aM.aK.eG(h:C.aK A)(k:Int):(C.eG A k).aK A:=by
 unfold aM.eG;split
 ·exact h.jH HA HN _
 ·exact h
theorem Bo(h:uw Λ bc C w)(hf:C.aK A)(k:Int):gH Tryz.prog 24 #[Ptt bc,.int .i64 k] w (λv w'=>v=.int .i64 (if 0<=k/\k<C.q.length then 0 else 7)/\uw Λ bc (C.eG A k) w'/\Kz w w'):=by
 obtain⟨gv,sv,B,ad,h⟩:=h;refine sK ah mixed Tryz.func24 rfl rfl ?_;obtain⟨sa,sc,rfl⟩:=af h.ci.row;have hlen:=hf.len;by_cases k0:k<0
 ·refine au (λc=>?_) (λc=>?_)
  ·have:¬k<0:=by simpa using c
   omega
  ·have e:aM.eG A C k=C:=by unfold aM.eG;rw[if_neg (by omega)]
   rw[e,if_neg (λx=>by omega)];exact⟨rfl,⟨_,_,_,_,h⟩,Kz.refl _⟩
 refine au (λc=>?_) (λc=>(by have:k<0:=(by simpa using c);omega));refine⟨_,_,h.ci.eY,_,rfl,?_⟩;refine au (λd=>?_) (λd=>?_)
 ·have d1:(C.q.length:Int)<=k:=by simpa using d
  have e:aM.eG A C k=C:=by
   unfold aM.eG aM.jH;rw[if_pos (by omega),List.getElem?_eq_none (by omega)]
  rw[e,if_neg (λx=>by omega)];exact⟨rfl,⟨_,_,_,_,h⟩,Kz.refl _⟩
 ·have d1:k<(C.q.length:Int):=by have:=of_decide_eq_false d;omega
  obtain⟨k,rfl⟩:∃k':Nat,k=(k':Int):=⟨k.toNat,by omega⟩;have hk:k<C.q.length:=by omega
  obtain⟨p,hp⟩:∃p,C.q[k]? = some p:=⟨C.q[k],by simp[hk]⟩;have hpo:=hf.net p (List.mem_of_getElem? hp);obtain⟨bs,cap,cur,hsv,aS,htk,hsz,hcap⟩:=jq h.ci.row (by omega);injection hsv with hsv _ hsc;subst hsv;subst hsc;have hel:=V6 hp htk;obtain⟨f8,ef1,ef2⟩:=hpo.f8 hf.n hf.sz;obtain⟨t1,t2,t3,t4⟩:=hpo.1;have et1:p.tg=(p.tg.toNat:Int):=by omega
  have et2:p.tr=(p.tr.toNat:Int):=by omega
  refine⟨_,_,h.ci.eY,_,rfl,⟨by omega,by omega⟩,_,_,aS,p.cells,by show aJ cur.toList (0+k*5) 5=_;rw[Nat.zero_add];exact hel,rfl,λw1 b1 m1 g1 l1=>⟨_,_,_,m1,rfl,rfl,λw2 m2 g2=>?_⟩⟩;have Kj:GB none w w2:=g1.new g2 l1;have h2:=h.ax Kj;have hfi:=find_ok h2.ci hf.n hf.sz p.tg.toNat p.tr.toNat (by omega) (by omega);rw[<-et1,<-et2]at hfi;refine⟨_,_,m2,[.int .u8 p.tg,.int .u8 p.tr],rfl,rfl,_,hfi.x,?_⟩;rintro _ w3 ⟨rfl,g3⟩;refine λw4 b4 m4 g4 l4=>⟨_,_,_,m4,rfl,rfl,λw5 m5 g5=>?_⟩
  have V7:GB none w3 w5:=g4.new g5 l4;have jT:=g3.trans V7;have h5:=h2.ax jT;have uz:=jT.get m2 nofun;refine⟨_,_,m5,_,rfl,?_⟩;rw[if_pos ⟨by omega,by omega⟩];have ed:aM.eG A C (k:Int)=if p.tg.toNat<C.n/\p.tr.toNat<C.sz then C.done p.tg.toNat p.tr.toNat (ku A (C.F p.tg.toNat p.tr.toNat) (p.fg.toNat,p.fr.toNat) p.d)else C:=by
   unfold aM.eG aM.jH;rw[if_pos (by omega),Int.toNat_natCast,hp]
  rw[ed];by_cases c:p.tg.toNat<C.n/\p.tr.toNat<C.sz
  ·rw[if_pos c]at m5 |-
   rw[if_pos c];have o:=hf.ok _ _ c.1 c.2;have e:=hf.out _ _ c.1 c.2;have gm:=hpo.gm HN hf.sz o (hf.sd _ _ c.1 c.2).1;have hl:=take_len HA o gm;rw[e]at hl;have qm:w5.heap[b4]? = some (.cells #[.pointer (some ⟨B p.tg.toNat p.tr.toNat,0,none⟩)] 133):=m5;have aeK:w5.heap[b1]? = some (.cells p.cells.toArray 139):=uz;refine⟨_,_,qm,_,rfl,_,QZ h5 c.1 c.2 (f:=64) (fst:=#[]) (cap:=#[Ptt b4,Ptt b1]) Tryz.func64 (by kernel_rfl) (by kernel_rfl) (R':=ku A (C.F p.tg.toNat p.tr.toNat) (p.fg.toNat,p.fr.toNat) p.d) (by simp only[List.length_nil]at hl;omega) (λw6 g6=>?_),?_⟩
   ·have ht:=XH HA HN.kind ((h5.ax g6).ci.enter c.1 c.2) o (p.fg.toNat,p.fr.toNat) (p.tg.toNat,p.tr.toNat) p.d gm (by rw[e];exact Nat.zero_le _)
    have ep:(Value.agg p.cells.toArray)=.agg #[.int .u8 (p.fg.toNat:Int),.int .u8 (p.fr.toNat:Int),.int .u8 (p.tg.toNat:Int),.int .u8 (p.tr.toNat:Int),.string p.d]:=by
     rw[<-ef1,<-ef2,<-et1,<-et2];rfl
    refine Rj (p:=p) (g6.get qm nofun) (g6.get aeK nofun) ?_;rw[ep];exact ag.mono' ht λv w' hp=>⟨hp.1,hp.2⟩
   ·rintro _ w6 ⟨rfl,h6,k6⟩
    exact⟨rfl,h6,(Kj.trans jT).kz.trans k6⟩
  ·rw[if_neg c,if_neg c]
   exact⟨rfl,⟨_,_,_,_,h5⟩,(Kj.trans jT).kz⟩
end
theorem UC{w:World}{v:Value}{n:Nat}{xs:List Value}(h:Fz w 139 5 v n xs)(ho:xs.all one=true)(hn:n<=1000000):ag Tryz.prog 62 #[v] w (λv' w'=>w'.ownsRow 0 139 5 v' n xs/\GB none w w'/\∀x,v'.ownBlock=some x->w.heap.size<=x):=by
 obtain⟨a,c,rfl,hc,hl,hv⟩:=h;refine aj ah mixed Tryz.func62 rfl rfl ?_;rcases hv with⟨rfl,rfl⟩|⟨b,off,cs,rfl,hb,hcut⟩
 ·obtain rfl:xs=[]:=List.eq_nil_of_length_eq_zero (by omega)
  exact⟨dY _ _ _,GB.refl _ _,nofun⟩
 ·refine λw1 b1 m1 g1 l1=>?_
  refine⟨_,xs,⟨rfl,.inr ⟨b1,0,#[],rfl,Nat.zero_le _,m1,Nat.zero_le _,Nat.zero_le _,rfl,rfl⟩⟩,⟨_,_,g1.get hb nofun,hcut,hl,ho⟩,by omega,λv' w2 ho2 g2 n2=>?_⟩;refine⟨?_,g1.new g2 l1,λx hx=>?_⟩
  ·have e:0+n=n:=Nat.zero_add n
   rw[e]at ho2;exact ho2
  ·rcases n2 x hx with e|e
   ·have e:some b1=some x:=e
    cases e;exact l1
   ·have:=g1.size;omega
theorem UD{w:World}{v:Value}{n:Nat}{xs:List Value}(h:Fz w 54 17 v n xs)(ho:xs.all one=true)(hn:n<=1000000):ag Tryz.prog 66 #[v] w (λv' w'=>w'.ownsRow 0 54 17 v' n xs/\GB none w w'/\∀x,v'.ownBlock=some x->w.heap.size<=x):=by
 obtain⟨a,c,rfl,hc,hl,hv⟩:=h;refine aj ah mixed Tryz.func66 rfl rfl ?_;rcases hv with⟨rfl,rfl⟩|⟨b,off,cs,rfl,hb,hcut⟩
 ·obtain rfl:xs=[]:=List.eq_nil_of_length_eq_zero (by omega)
  exact⟨dY _ _ _,GB.refl _ _,nofun⟩
 ·refine λw1 b1 m1 g1 l1=>?_
  refine⟨_,xs,⟨rfl,.inr ⟨b1,0,#[],rfl,Nat.zero_le _,m1,Nat.zero_le _,Nat.zero_le _,rfl,rfl⟩⟩,⟨_,_,g1.get hb nofun,hcut,hl,ho⟩,by omega,λv' w2 ho2 g2 n2=>?_⟩;refine⟨?_,g1.new g2 l1,λx hx=>?_⟩
  ·have e:0+n=n:=Nat.zero_add n
   rw[e]at ho2;exact ho2
  ·rcases n2 x hx with e|e
   ·have e:some b1=some x:=e
    cases e;exact l1
   ·have:=g1.size;omega
theorem Rk{w:World}{v:Value}{n:Nat}{xs:List Value}(h:Fz w 128 2 v n xs)(ho:xs.all one=true)(hn:n<=1000000):ag Tryz.prog 67 #[v] w (λv' w'=>w'.ownsRow 0 128 2 v' n xs/\GB none w w'/\∀x,v'.ownBlock=some x->w.heap.size<=x):=by
 obtain⟨a,c,rfl,hc,hl,hv⟩:=h;refine aj ah mixed Tryz.func67 rfl rfl ?_;rcases hv with⟨rfl,rfl⟩|⟨b,off,cs,rfl,hb,hcut⟩
 ·obtain rfl:xs=[]:=List.eq_nil_of_length_eq_zero (by omega)
  exact⟨dY _ _ _,GB.refl _ _,nofun⟩
 ·refine λw1 b1 m1 g1 l1=>?_
  refine⟨_,xs,⟨rfl,.inr ⟨b1,0,#[],rfl,Nat.zero_le _,m1,Nat.zero_le _,Nat.zero_le _,rfl,rfl⟩⟩,⟨_,_,g1.get hb nofun,hcut,hl,ho⟩,by omega,λv' w2 ho2 g2 n2=>?_⟩;refine⟨?_,g1.new g2 l1,λx hx=>?_⟩
  ·have e:0+n=n:=Nat.zero_add n
   rw[e]at ho2;exact ho2
  ·rcases n2 x hx with e|e
   ·have e:some b1=some x:=e
    cases e;exact l1
   ·have:=g1.size;omega
theorem Rl{w:World}{v:Value}{n:Nat}{xs:List Value}(h:Fz w 57 7 v n xs)(ho:xs.all one=true)(hn:n<=1000000):ag Tryz.prog 68 #[v] w (λv' w'=>w'.ownsRow 0 57 7 v' n xs/\GB none w w'/\∀x,v'.ownBlock=some x->w.heap.size<=x):=by
 obtain⟨a,c,rfl,hc,hl,hv⟩:=h;refine aj ah mixed Tryz.func68 rfl rfl ?_;rcases hv with⟨rfl,rfl⟩|⟨b,off,cs,rfl,hb,hcut⟩
 ·obtain rfl:xs=[]:=List.eq_nil_of_length_eq_zero (by omega)
  exact⟨dY _ _ _,GB.refl _ _,nofun⟩
 ·refine λw1 b1 m1 g1 l1=>?_
  refine⟨_,xs,⟨rfl,.inr ⟨b1,0,#[],rfl,Nat.zero_le _,m1,Nat.zero_le _,Nat.zero_le _,rfl,rfl⟩⟩,⟨_,_,g1.get hb nofun,hcut,hl,ho⟩,by omega,λv' w2 ho2 g2 n2=>?_⟩;refine⟨?_,g1.new g2 l1,λx hx=>?_⟩
  ·have e:0+n=n:=Nat.zero_add n
   rw[e]at ho2;exact ho2
  ·rcases n2 x hx with e|e
   ·have e:some b1=some x:=e
    cases e;exact l1
   ·have:=g1.size;omega
theorem O4(q:List bH)(t:Nat):(flat q).drop (t*5)=flat (q.drop t):=by
 induction q generalizing t with
 |nil=>simp[flat]
 |cons p q ih =>
  cases t with
  |zero=>simp
  |succ t =>
   rw[show flat (p::q)=p.cells++flat q by simp[flat],List.drop_append,show p.cells.length=5 from rfl,show(t+1)*5 - 5=t*5 by omega,ih];rw[List.drop_eq_nil_of_le (by show 5<=_;omega)];simp
theorem Rm(q:List bH):(flat q).all one=true:=by
 rw[List.all_eq_true];intro u hu;unfold flat at hu;obtain⟨p,_,hp⟩:=List.mem_flatMap.1 hu;simp only[bH.cells,List.mem_cons,List.not_mem_nil,or_false]at hp;rcases hp with rfl|rfl|rfl|rfl|rfl<;>rfl
theorem abU{w:World}{q:List bH}{sa:Option Addr}{sc:Nat}(h:w.ownsRow 0 139 5 (.slice sa q.length sc) q.length (flat q)){t:Nat}(ht:t<=q.length):Fz w 139 5 (.slice (if sc=t then sa else sa.map (·.add (t*5))) (q.length - t) (sc - t)) (q.length - t) (flat (q.drop t)):=by
 have hl:(flat (q.drop t)).length=(q.length - t)*5:=by rw[YD,List.length_drop]
 rcases h.2 with⟨e,h0⟩|⟨g,cap,cur,e,h0,h2,h3,h4,h5,h6⟩
 ·injection e with e1 _ e3
  subst e1;subst e3;exact⟨none,0 - t,by split<;>rfl,by omega,hl,.inl ⟨rfl,by omega⟩⟩
 ·injection e with e1 _ e3
  subst e1;subst e3;by_cases c:sc=t
  ·have:q.length=t:=by omega
   refine⟨_,_,rfl,by omega,hl,.inr ⟨g,0,cur,by rw[if_pos c],h2,?_⟩⟩;rw[show q.length - t=0 by omega,Nat.zero_mul,List.drop_eq_nil_of_le (by omega)];simp[aJ,flat]
  ·refine⟨_,_,rfl,by omega,hl,.inr ⟨g,t*5,cur,by rw[if_neg c];simp[Addr.add];omega,h2,?_⟩⟩
   rw[<-O4,<-h6];unfold aJ;rw[List.drop_take,Nat.sub_mul]
section
variable{Λ:bU}{w:World}{bc:Nat}{C:aM}
theorem q8(h:uw Λ bc C w)(hlen:C.q.length<=20000)(fr:Int)(hlo : -9223372036854775808<=fr)(hhi:fr<9223372036854775808):ag Tryz.prog 22 #[Ptt bc,.int .i64 fr] w (λv w'=>w'.ownsRow 0 139 5 v (C.q.length - min fr.toNat C.q.length) (flat (C.q.drop (min fr.toNat C.q.length)))/\GB none w w'/\∀x,v.ownBlock=some x->w.heap.size<=x):=by
 obtain⟨gv,sv,B,ad,h⟩:=h;refine aj ah mixed Tryz.func22 rfl rfl ?_;obtain⟨sa,sc,rfl⟩:=af h.ci.row;refine⟨_,_,h.ci.eY,_,rfl,_,_,h.ci.eY,_,rfl,?_⟩;obtain⟨t,et⟩:∃t,t=min fr.toNat C.q.length:=⟨_,rfl⟩;rw[<-et];have hl:(if(C.q.length:Int)<(if(0:Int) > fr then 0 else fr)then(C.q.length:Int)else if(0:Int) > fr then 0 else fr)=(t:Int):=by
  split
  ·split at * <;> omega
  ·split at * <;> omega
 have hc:C.q.length<=sc:=by
  rcases h.ci.row.2 with⟨e,h0⟩|⟨g,cap,cur,e,h0,h2,h3,_⟩
  ·omega
  ·injection e with _ _ e3;subst e3;exact h3
 have hz:=abU h.ci.row (t:=t) (by omega);refine⟨⟨by rw[hl];omega,by rw[hl];omega,hc⟩,?_⟩;refine⟨_,?_,λv w' hp=>hp⟩;have:=UC hz (Rm _) (by omega);have e:∀l:Int,l=(t:Int)->ag Tryz.prog 62 #[.slice (if sc=l.toNat then sa else sa.map (·.add (l.toNat*5))) (C.q.length - l.toNat) (sc - l.toNat)] w _:=λl hl=>by subst hl;exact this
 exact e _ hl
end
section
variable{A:aR}(HA:bG A){Λ:bU}{w:World}{bc:Nat}{C:aM}
include HA
end
def lf(l:List MC)(vs:List (Value×Value)):List Value:=(List.zipWith (λc p=>dA c p.1 p.2) l vs).flatten
theorem kX(c:MC)(l:List MC)(p:Value×Value)(vs:List (Value×Value)):lf (c::l) (p::vs)=dA c p.1 p.2++lf l vs:=by simp[lf]
theorem O5:∀{l:List MC} {vs:List (Value×Value)} {k:Nat} {c:MC} {p:Value×Value},l[k]? = some c->vs[k]? = some p->aJ (lf l vs) (k*17) 17=dA c p.1 p.2
 | [],_,_,_,_,h,_=>by simp at h
 |_::_,[],_,_,_,_,h=>by simp at h
 |c::l,p::vs,0,_,_,h1,h2=>by
  simp at h1 h2;subst h1;subst h2;rw[kX];unfold aJ;simp[dA]
 |c::l,p::vs,k+1,_,_,h1,h2=>by
  rw[kX];unfold aJ;rw[List.drop_append,List.drop_eq_nil_of_le (by show 17<=_;omega),List.nil_append,show(dA c p.1 p.2).length=17 from rfl,show(k+1)*17 - 17=k*17 by omega];exact O5 (l:=l) (vs:=vs) (by simpa using h1) (by simpa using h2)
theorem M7:∀{l:List MC} {vs:List (Value×Value)} {k:Nat} {p:Value×Value} (rv:Value),k<l.length->vs[k]? = some p->(lf l vs).set (k*17+13) rv=lf l (vs.set k (rv,p.2))
 | [],_,_,_,_,h,_=>by simp at h
 |_::_,[],_,_,_,_,h=>by simp at h
 |c::l,p::vs,0,_,rv,_,h2=>by
  simp at h2;subst h2;rw[List.set_cons_zero,kX,kX,List.set_append_left _ _ (by show 0*17+13<17;omega)];rfl
 |c::l,p::vs,k+1,_,rv,h1,h2=>by
  rw[List.set_cons_succ,kX,kX,List.set_append_right _ _ (by show 17<=_;omega),show(k+1)*17+13 - (dA c p.1 p.2).length=k*17+13 by show _ - 17=_;omega];rw[M7 (l:=l) (vs:=vs) rv (by simpa using h1) (by simpa using h2)]
theorem M8:∀{l:List MC} {vs:List (Value×Value)} {k:Nat} {p:Value×Value} (dv:Value),k<l.length->vs[k]? = some p->(lf l vs).set (k*17+14) dv=lf l (vs.set k (p.1,dv))
 | [],_,_,_,_,h,_=>by simp at h
 |_::_,[],_,_,_,_,h=>by simp at h
 |c::l,p::vs,0,_,rv,_,h2=>by
  simp at h2;subst h2;rw[List.set_cons_zero,kX,kX,List.set_append_left _ _ (by show 0*17+14<17;omega)];rfl
 |c::l,p::vs,k+1,_,rv,h1,h2=>by
  rw[List.set_cons_succ,kX,kX,List.set_append_right _ _ (by show 17<=_;omega),show(k+1)*17+14 - (dA c p.1 p.2).length=k*17+14 by show _ - 17=_;omega];rw[M8 (l:=l) (vs:=vs) rv (by simpa using h1) (by simpa using h2)]
theorem M9{w:World}:∀{l:List MC} {vs:List (Value×Value)},(∀(i:Nat) (c:MC) (p:Value×Value),l[i]? = some c->vs[i]? = some p->aL w c.r p.1 p.2)->(lf l vs).all one=true
 | [],_,_=>rfl
 |_::_,[],_=>rfl
 |c::l,p::vs,h=>by
  rw[kX,List.all_append,M9 (l:=l) (vs:=vs) λi c p h1 h2=>h (i+1) c p (by simpa using h1) (by simpa using h2),Bool.and_true];obtain⟨rv,dv⟩:=p;obtain⟨ra,rn,rc,da,dn,dc,e1,e2⟩:=(h 0 c (rv,dv) rfl rfl).sl;have e1:rv=_:=e1;have e2:dv=_:=e2;subst e1;subst e2;rfl
theorem gp{xs:List Value}{off:Nat}{v:Value}(hv:one v=true)(hc:v.cells.toList=[v])(h:off<xs.length):F4 xs off 1 v=true:=by
 unfold F4;rw[hc];simp[hv];exact h
theorem XT{w w':World}{e:TypeId}{size n g cap off:Nat}{xs:List Value}{v:Value}{cur:Array Value}(h:w.ownsRow 0 e size (.slice (some ⟨g,0,none⟩) n cap) n xs)(aS:w.heap[g]? = some (.cells cur e))(hw:w'.heap[g]? = some (.cells (cur.toList.take off++[v]++cur.toList.drop (off+1)).toArray e))(ho:off<n*size):w'.ownsRow 0 e size (.slice (some ⟨g,0,none⟩) n cap) n (xs.set off v):=by
 rcases h.2 with⟨q,h0⟩|⟨g',cap',cur',q,h0,h2,h3,h4,h5,h6⟩
 ·cases q
 ·injection q with q1 _ q3
  injection q1 with q1;injection q1 with q1;subst q1;subst q3;rw[aS]at h2;injection h2 with h2;injection h2 with h2 _;subst h2;have hlen:xs.length=n*size:=h.1;have hl:n*size<=cur.toList.length:=by
   have:=congrArg List.length h6;rw[List.length_take]at this;omega
  have hs:cur.toList.take off++[v]++cur.toList.drop (off+1)=cur.toList.set off v:=by
   rw[List.set_eq_take_append_cons_drop,if_pos (by omega)];simp
  rw[hs]at hw;refine⟨by rw[List.length_set];exact hlen,.inr ⟨g,cap,_,rfl,h0,hw,h3,h4,?_,?_⟩⟩
  ·simp[h5]
  ·show(cur.toList.set off v).take (n*size)=_
   rw[List.take_set,h6]
theorem jk{α:Type}{f:α->List Value}(hf:∀x,(f x).all one=true)(l:List α):(l.map f).flatten.all one=true:=by
 induction l with
 |nil=>rfl
 |cons x l ih=>rw[List.map_cons,List.flatten_cons,List.all_append,hf,ih];rfl
theorem own_set'{w w':World}{e:TypeId}{size n g cap off:Nat}{xs:List Value}{v:Value}{cur:Array Value}(h:w.ownsRow 0 e size (.slice (some ⟨g,0,none⟩) n cap) n xs)(aS:w.heap[g]? = some (.cells cur e)){off' s1:Nat}{vc:List Value}(hw:w'.heap[g]? = some (.cells (cur.toList.take off'++vc++cur.toList.drop (off'+s1)).toArray e))(e1:off'=off)(e2:s1=1)(e3:vc=[v])(ho:off<n*size):w'.ownsRow 0 e size (.slice (some ⟨g,0,none⟩) n cap) n (xs.set off v):=by
 subst e1;subst e2;subst e3;exact XT h aS hw ho
section
variable{A:aR}(HN:dL A){Λ:bU}{w:World}{bc:Nat}{C:aM}
include HN
theorem abV(h:uw Λ bc C w)(hf:C.aK A)(g i:Nat)(hg:g<C.n)(hi:i<C.sz):ag Tryz.prog 25 #[Ptt bc,.agg #[.int .u8 g,.int .u8 i]] w (λv w'=>jA w' v (C.F g i).log/\GB none w w'/\∀x,v.ownBlock=some x->w.heap.size<=x):=by
 obtain⟨gv,sv,B,ad,h⟩:=h;have hn:=hf.n;have hz:=hf.sz;have hok:=hf.ok g i hg hi;have hll:=hok.lg;refine aj ah mixed Tryz.func25 rfl rfl ?_;refine λw1 b1 m1 g1 l1=>?_
 have h1:=h.ax g1;refine⟨_,_,m1,[.int .u8 g,.int .u8 i],rfl,rfl,_,find_ok h1.ci hf.n hf.sz g i (by omega) (by omega),?_⟩;rintro _ w2 ⟨rfl,g2⟩;rw[if_pos ⟨hg,hi⟩];have h2:=h1.ax g2;have hR:=h2.ci.rep g i hg hi;obtain⟨vs,v1,v2,v3⟩:=hR.lg;refine⟨_,_,hR.mem,_,rfl,_,UD (mg v2) (M9 v3) (by omega),?_⟩;rintro lv w3 ⟨o3,g3,n3⟩;have G3:=(g1.trans g2).trans g3;have L3:jA w3 lv (C.F g i).log:=⟨vs,v1,o3,λi c p a b=>(v3 i c p a b).kz g3.kz⟩;obtain⟨la,lc,rfl⟩:=af o3;have n3':∀x,(Value.slice la (C.F g i).log.length lc).ownBlock=some x->w.heap.size<=x:=λx hx=>by have:=n3 x hx;have:=(g1.trans g2).size;omega
 clear o3 v3 v2 v1 vs;refine⟨λm s wk=>∃k:Nat,m=(C.F g i).log.length - k/\k<=(C.F g i).log.length/\s=[(6,.slice la (C.F g i).log.length lc),(19,.slice la (C.F g i).log.length lc),(20,.int .i64 (C.F g i).log.length),(21,.int .i64 k)]/\jA wk (.slice la (C.F g i).log.length lc) (C.F g i).log/\GB none w wk,⟨_,_,⟨0,rfl,Nat.zero_le _,rfl,L3,G3⟩,rfl,rfl,rfl,rfl,trivial⟩,?_⟩;rintro m s wk ⟨k,rfl,hk,rfl,⟨vs,v1,v2,v3⟩,gk⟩;refine au (λc=>?_) (λc=>?_)
 ·have c1:k<(C.F g i).log.length:=by simp at c;omega
  obtain⟨c,hc⟩:∃c,(C.F g i).log[k]? = some c:=⟨(C.F g i).log[k],by simp[c1]⟩;obtain⟨p,hp⟩:∃p,vs[k]? = some p:=⟨vs[k],by simp[v1,c1]⟩;obtain⟨gb,cap,cur,ev,aS,htk,hsz,hcap⟩:=jq v2 (by omega);injection ev with ev _ Ro;subst ev;subst Ro;have hel:aJ cur.toList (k*17) 17=dA c p.1 p.2:=by
   rw[<-O5 hc hp,show lf (C.F g i).log vs=_ from htk.symm];unfold aJ;rw[List.drop_take,List.take_take,Nat.min_eq_left (by omega)]
  have hrg:=v3 k c p hc hp;obtain⟨rb1,rb2⟩:=HN.rl c (hok.lc c (List.mem_of_getElem? hc));obtain⟨rv,dv⟩:=p;obtain⟨ra,rn,rc,da,dn,dc,e1,e2⟩:=hrg.sl;have e1:rv=_:=e1;have e2:dv=_:=e2;subst e1;subst e2;have lgb:w.heap.size<=gb:=n3' gb rfl;refine⟨⟨by omega,by omega⟩,_,_,aS,dA c _ _,by show aJ cur.toList (0+k*17) 17=_;rw[Nat.zero_add];exact hel,rfl,λw4 b4 m4 g4 l4=>⟨_,_,_,m4,rfl,rfl,λw5 m5 g5=>?_⟩⟩;have V7:GB none wk w5:=g4.new g5 l4;have nb:gb≠b4:=by have:=ae aS;omega
  refine⟨_,_,m5,_,rfl,_,Rk (hrg.1.kz V7.kz (by decide)) (jk (λ_=>rfl) _) (by omega),?_⟩;rintro rv' w6 ⟨o6,g6,n6⟩;have AV:=V7.trans g6;have uI:=AV.get aS nofun;obtain⟨tN,rc',rfl⟩:=af o6;refine⟨⟨by omega,by omega⟩,_,_,_,uI,gp rfl rfl (by rw[Array.length_toList];show 0+k*17+13<_;omega),rfl,λw7 m7 g7=>?_⟩;have o7:=own_set' (off:=k*17+13) (az v2 λx hx=>by cases hx;exact AV.block gb (ae aS) nofun) uI m7 (by show 0+(k:Int).toNat*17+8+5=_;omega) rfl rfl (by omega);rw[show(List.zipWith (λ(c:MC) (p:Value×Value)=>dA c p.1 p.2) (C.F g i).log vs).flatten=lf (C.F g i).log vs from rfl,M7 _ c1 hp]at o7;have m57:w7.heap[b4]? = _:=g7.get (g6.get m5 nofun) λe=>nb (Option.some.inj e).symm
  have QJ:Kz w6 w7:=g7.Cy λc' t ht hc'=>by rw[uI]at hc';injection hc' with hc';injection hc' with _ hc';subst hc';revert ht;decide
  have G7:GB none w w7:=(gk.trans AV).new g7 lgb;have r7:=(mg o6).kz QJ (by decide);refine⟨_,_,m57,_,rfl,_,Rl ((hrg.2.kz AV.kz (by decide)).kz QJ (by decide)) (jk (λ_=>rfl) _) (by omega),?_⟩;rintro eO w8 ⟨o8,g8,n8⟩;have O6:=g8.get m7 nofun;obtain⟨qi,qj,rfl⟩:=af o8;refine⟨⟨by omega,by omega⟩,_,_,_,O6,gp rfl rfl ?_,rfl,λw9 m9 g9=>?_⟩
  ·rw[Array.length_toList]
   obtain⟨g7',_,ag9,e7,Na,_,hs7,_⟩:=jq o7 (by omega);injection e7 with e7 _ _;injection e7 with e7;injection e7 with e7;subst e7;rw[m7]at Na;injection Na with Na;injection Na with Na _;rw[Na];show 0+(k:Int).toNat*17+8+6<_;omega
  have o9:=own_set' (off:=k*17+14) (az o7 λx hx=>by cases hx;exact g8.block gb (ae m7) nofun) O6 m9 (by show 0+(k:Int).toNat*17+8+6=_;omega) rfl rfl (by omega);have hp':(vs.set k (Value.slice tN c.r.rows.length rc',Value.slice da dn dc))[k]? = some (Value.slice tN c.r.rows.length rc',Value.slice da dn dc):=by simp[v1,c1]
  rw[M8 _ c1 hp',List.set_set]at o9;have k89:Kz w8 w9:=g9.Cy λc' t ht hc'=>by rw[O6]at hc';injection hc' with hc';injection hc' with _ hc';subst hc';revert ht;decide
  have k09:Kz wk w9:=((AV.kz.trans QJ).trans g8.kz).trans k89;refine⟨by omega,_,_,⟨k+1,rfl,by omega,rfl,⟨_,by rw[List.length_set];exact v1,o9,λj c' p' h1 h2=>?_⟩,(G7.trans g8).new g9 lgb⟩,⟨rfl,rfl,rfl,rfl,trivial⟩,by omega⟩;by_cases e:j=k
  ·subst e
   rw[hc]at h1;cases h1
   rw[List.getElem?_set_self (by rw[v1];exact c1)]at h2;cases h2
   exact⟨(r7.kz g8.kz (by decide)).kz k89 (by decide),(mg o8).kz k89 (by decide)⟩
  ·rw[List.getElem?_set_ne (λh=>e h.symm)]at h2
   exact(v3 j c' p' h1 h2).kz k09
 ·exact⟨⟨vs,v1,v2,v3⟩,gk,n3'⟩
end
abbrev Ra:=Rg×Value×Value
abbrev uA(x:Ra):List Value:=dP x.1 x.2.1 x.2.2
structure rH(w0 w:World)(x:Ra):Prop where
 r:LN 128 2 w0 w x.2.1 x.1.rows.length (x.1.rows.map Row.cells).flatten
 d:LN 57 7 w0 w x.2.2 x.1.aW.length (x.1.aW.map aB.cells).flatten
structure QN(w0 w:World)(q:Value)(rs:List Ra):Prop where
 q:LN 52 7 w0 w q rs.length (rs.map uA).flatten
 r:∀x∈rs,rH w0 w x
theorem Kk{α:Type}{f:α->List Value}{size:Nat}(hf:∀x,(f x).length=size){j:Nat}(hj:j<size){x x':α}{v:Value}(hx:(f x).set j v=f x'):∀(l:List α) (i:Nat),l[i]? = some x->(l.map f).flatten.set (i*size+j) v=((l.set i x').map f).flatten
 | [],_,h=>by simp at h
 |y::l,0,h=>by
  simp at h;subst h;rw[List.set_cons_zero,List.map_cons,List.map_cons,List.flatten_cons,List.flatten_cons,Nat.zero_mul,Nat.zero_add,List.set_append_left _ _ (by rw[hf];exact hj),hx]
 |y::l,i+1,h=>by
  rw[List.set_cons_succ,List.map_cons,List.map_cons,List.flatten_cons,List.flatten_cons,List.set_append_right _ _ (by rw[hf,Nat.succ_mul];omega),hf,show(i+1)*size+j - size=i*size+j by rw[Nat.succ_mul];omega];rw[Kk hf hj hx l i (by simpa using h)]
section
variable{e size:Nat}{w0 w w':World}{v:Value}{n:Nat}{xs:List Value}
theorem LN.bV(h:LN e size w0 w v n xs){x t:Nat}{c:Array Value}(g:GB (some x) w w')(hx:w.heap[x]? = some (.cells c t))(ht:t≠e)(hn:w0.heap.size<=x):LN e size w0 w' v n xs :=
 ⟨az h.own λy hy=>by obtain⟨c',hc⟩:=ay h.own hy;exact g.block y (ae hc) λz=>dw hc hx ht.symm (Option.some.inj z),h.gb.new g hn,h.new⟩
theorem LN.base{wb:World}(h:LN e size w0 w v n xs)(g:GB none wb w0):LN e size wb w v n xs:=⟨h.own,g.trans h.gb,λx hx=>Nat.le_trans g.size (h.new x hx)⟩
theorem rH.ax{x:Ra}(h:rH w0 w x)(g:GB none w w'):rH w0 w' x:=⟨h.r.ax g,h.d.ax g⟩
theorem rH.bV{y:Ra}(h:rH w0 w y){x t:Nat}{c:Array Value}(g:GB (some x) w w')(hx:w.heap[x]? = some (.cells c t))(h1:t≠128)(h2:t≠57)(hn:w0.heap.size<=x):rH w0 w' y:=⟨h.r.bV g hx h1 hn,h.d.bV g hx h2 hn⟩
theorem QN.ax{q:Value}{rs:List Ra}(h:QN w0 w q rs)(g:GB none w w'):QN w0 w' q rs:=⟨h.q.ax g,λx hx=>(h.r x hx).ax g⟩
theorem QN.bV{q:Value}{rs:List Ra}(h:QN w0 w q rs){x t:Nat}{c:Array Value}(g:GB (some x) w w')(hx:w.heap[x]? = some (.cells c t))(h1:t≠128)(h2:t≠57)(h3:t≠52)(hn:w0.heap.size<=x):QN w0 w' q rs:=⟨h.q.bV g hx h3 hn,λy hy=>(h.r y hy).bV g hx h1 h2 hn⟩
end
theorem qg.ra{w:World}{q:Value}{l:List Rg}(h:qg w q l):∃ps:List Ra,ps.map (·.1)=l/\Fz w 52 7 q ps.length (ps.map uA).flatten/\∀x∈ps,aL w x.1 x.2.1 x.2.2:=by
 obtain⟨vs,h1,h2,h3⟩:=h;have hz:List.zipWith (λr (p:Value×Value)=>dP r p.1 p.2) l vs=(l.zip vs).map uA:=by
  rw[List.zip_eq_zipWith,List.map_zipWith]
 refine⟨l.zip vs,List.map_fst_zip (by omega),?_,λx hx=>?_⟩
 ·rw[<-hz,show(l.zip vs).length=l.length by rw[List.length_zip];omega];exact h2
 ·obtain⟨i,hi,rfl⟩:=List.getElem_of_mem hx
  have e:=List.getElem?_eq_getElem hi;rw[List.getElem?_zip_eq_some]at e;exact h3 i _ _ e.1 e.2
theorem XU{w:World}{ps:List Ra}(h:∀x∈ps,aL w x.1 x.2.1 x.2.2):(ps.map uA).flatten.all one=true:=by
 induction ps with
 |nil=>rfl
 |cons x l ih =>
  rw[List.map_cons,List.flatten_cons,List.all_append,ih λy hy=>h y (List.mem_cons_of_mem _ hy),Bool.and_true];obtain⟨r,rv,dv⟩:=x;obtain⟨ra,rn,rc,da,dn,dc,e1,e2⟩:=(h (r,rv,dv) List.mem_cons_self).sl;have e1:rv=_:=e1;have e2:dv=_:=e2;subst e1;subst e2;rfl
theorem LN.at{e size:Nat}{w0 w:World}{v:Value}{α:Type}{f:α->List Value}{l:List α}(h:LN e size w0 w v l.length (l.map f).flatten)(hf:∀x,(f x).length=size){i:Nat}{x:α}(hx:l[i]? = some x):∃g cap cur,v=.slice (some ⟨g,0,none⟩) l.length cap/\w0.heap.size<=g/\w.heap[g]? = some (.cells cur e)/\aJ cur.toList (0+(i:Int).toNat*size) size=f x/\l.length*size<=cur.size:=by
 have hi:=(List.getElem?_eq_some_iff.1 hx).1;obtain⟨g,cap,cur,ev,aS,htk,hsz,hcap⟩:=jq h.own (by omega);subst ev;refine⟨g,cap,cur,rfl,h.new g rfl,aS,?_,hsz⟩;refine kP hf hx ?_;unfold aJ;rw[List.drop_zero];exact htk
theorem LN.set{e size:Nat}{w0 w w':World}{α:Type}{f:α->List Value}{l:List α}{g cap:Nat}{cur:Array Value}(h:LN e size w0 w (.slice (some ⟨g,0,none⟩) l.length cap) l.length (l.map f).flatten)(hf:∀x,(f x).length=size)(aS:w.heap[g]? = some (.cells cur e)){i j:Nat}{x x':α}{v:Value}(hx:l[i]? = some x)(hj:j<size)(hxx:(f x).set j v=f x'){off' s1:Nat}{vc:List Value}(hw:w'.heap[g]? = some (.cells (cur.toList.take off'++vc++cur.toList.drop (off'+s1)).toArray e))(e1:off'=i*size+j)(e2:s1=1)(e3:vc=[v])(gb:GB (some g) w w'):LN e size w0 w' (.slice (some ⟨g,0,none⟩) (l.set i x').length cap) (l.set i x').length ((l.set i x').map f).flatten:=by
 have hi:=(List.getElem?_eq_some_iff.1 hx).1;have h2:(i+1)*size<=l.length*size:=Nat.mul_le_mul_right _ hi;rw[Nat.succ_mul]at h2;have:=own_set' h.own aS hw e1 e2 e3 (by omega);rw[Kk hf hj hxx l i hx]at this;rw[List.length_set];exact⟨this,h.gb.new gb (h.new g rfl),h.new⟩
theorem jb{α:Type}{l:List α}{i j:Nat}{x:α}(hi:i<l.length):(l.set i x)[j]? = if j=i then some x else l[j]?:=by
 by_cases h:j=i
 ·subst h;rw[if_pos rfl];simp[hi]
 ·rw[if_neg h,List.getElem?_set_ne (λe=>h e.symm)]
theorem Rp{w:World}{q:Value}{l:List Rg}(h:qg w q l)(hl:l.length<=100000)(hs:∀r∈l,r.rows.length<=1000000/\r.aW.length<=1000000):ag Tryz.prog 81 #[q] w (λv w'=>∃rs:List Ra,rs.map (·.1)=l/\QN w w' v rs):=by
 obtain⟨ps,rfl,hf,hr⟩:=h.ra;rw[List.length_map]at hl;obtain⟨qa,qc,rfl,hrest⟩:=hf;have hf:Fz w 52 7 (.slice qa ps.length qc) ps.length (ps.map uA).flatten:=⟨qa,qc,rfl,hrest⟩;refine aj ah mixed Tryz.func81 rfl rfl ?_;refine⟨_,Rc hf (XU hr) (by omega),?_⟩;intro v w1 L;obtain⟨va,vc,rfl⟩:=af L.own;refine⟨λn s wk=>∃(i:Nat) (rs:List Ra),n=ps.length - i/\i<=ps.length/\s=[(0,.slice va ps.length vc),(7,.slice va ps.length vc),(8,.int .i64 ps.length),(9,.int .i64 i)]/\rs.length=ps.length/\rs.map (·.1)=ps.map (·.1)/\LN 52 7 w wk (.slice va rs.length vc) rs.length (rs.map uA).flatten/\(∀j x,j<i->rs[j]? = some x->rH w wk x)/\(∀j,i<=j->rs[j]? = ps[j]?),⟨_,_,⟨0,ps,rfl,Nat.zero_le _,rfl,rfl,rfl,L,λ_ _ h=>by omega,λ_ _=>rfl⟩,rfl,rfl,rfl,rfl,trivial⟩,?_⟩;clear L;rintro n s wk ⟨i,rs,rfl,hi,rfl,hlen,hmap,L,hnew,hold⟩;refine au (λd=>?_) (λd=>?_)
 ·have d1:i<ps.length:=by have:=of_decide_eq_true d;omega
  obtain⟨⟨r,rv,dv⟩,hx⟩:∃x,ps[i]? = some x:=⟨ps[i],by simp[d1]⟩;have hx':rs[i]? = some (r,rv,dv):=(hold i (Nat.le_refl _)).trans hx;have hmem:=List.mem_of_getElem? hx;have hrg:=hr _ hmem;obtain⟨ra,rn,rc,da,dn,dc,e1,e2⟩:=hrg.sl;have e1:rv=_:=e1;have e2:dv=_:=e2;subst e1 e2;obtain⟨hb1,hb2⟩:=hs r (List.mem_map.2 ⟨_,hmem,rfl⟩);obtain⟨g,cap,cur,ev,hg,aS,hcut,hsz⟩:=L.at (f:=uA) (λ_=>rfl) hx';injection ev with ea _ ec;subst ea ec;refine⟨⟨by omega,by omega⟩,_,_,aS,dP r (.slice ra rn rc) (.slice da dn dc),hcut,rfl,λw2 b2 m2 g2 l2=>⟨_,_,_,m2,rfl,rfl,λw3 m3 g3=>?_⟩⟩;have G3:=g2.new g3 l2;have nb:g≠b2:=by have:=ae aS;omega
  have L3:=L.ax G3;have abW:=G3.get aS nofun;have Gw:=L3.gb;refine⟨_,_,m3,_,rfl,_,Hy (hrg.1.kz Gw.kz (by decide)) (jk (λ_=>rfl) _) hb1,?_⟩;intro rv' w4 R4;obtain⟨tN,rc',rfl⟩:=af R4.own;have q9:=R4.gb.get abW nofun;have L4:=L3.ax R4.gb;refine⟨⟨by omega,by omega⟩,_,_,_,q9,gp rfl rfl (by rw[Array.length_toList];show 0+(i:Int).toNat*7+5<_;omega),rfl,λw5 m5 g5=>?_⟩;have hi7:0+(i:Int).toNat*7+5=i*7+5:=by omega
  have hi8:0+(i:Int).toNat*7+6=i*7+6:=by omega
  have L5:=L4.set (f:=uA) (x':=(r,.slice tN r.rows.length rc',.slice da dn dc)) (λ_=>rfl) q9 hx' (by decide) rfl m5 hi7 rfl rfl g5;have R5:=(R4.base Gw).bV g5 q9 (by decide) hg;have Z4:w5.heap[b2]? = _:=g5.get (R4.gb.get m3 nofun) λe=>nb (Option.some.inj e).symm
  have D5:=((hrg.2.kz Gw.kz (by decide)).kz R4.gb.kz (by decide)).bV g5 q9 (by decide);refine⟨_,_,Z4,_,rfl,_,Hz D5 (jk (λ_=>rfl) _) hb2,?_⟩;intro eO w6 R6;obtain⟨qi,qj,rfl⟩:=af R6.own;have hx6:(rs.set i (r,Value.slice tN r.rows.length rc',Value.slice da dn dc))[i]? = some (r,.slice tN r.rows.length rc',.slice da dn dc):=by rw[jb (by omega),if_pos rfl]
  have L6:=L5.ax R6.gb;obtain⟨g',cap',aha,ev6,hg6,uI,agV,aeL⟩:=L6.at (f:=uA) (λ_=>rfl) hx6;injection ev6 with Rq _ ec6;injection Rq with Rq;injection Rq with Rq;subst Rq ec6;rw[List.length_set]at aeL;refine⟨⟨by omega,by omega⟩,_,_,_,uI,gp rfl rfl (by rw[Array.length_toList];show 0+(i:Int).toNat*7+6<_;omega),rfl,λw7 m7 g7=>?_⟩;have L7:=L6.set (f:=uA) (x':=(r,.slice tN r.rows.length rc',.slice qi r.aW.length qj)) (λ_=>rfl) uI hx6 (by decide) rfl m7 hi8 rfl rfl g7;rw[List.set_set]at L7;have Rn:rH w w7 (r,.slice tN r.rows.length rc',.slice qi r.aW.length qj):=⟨(R5.ax R6.gb).bV g7 uI (by decide) hg,(R6.base L5.gb).bV g7 uI (by decide) hg⟩;have stay:∀x,rH w wk x->rH w w7 x:=λx h=>((((h.ax G3).ax R4.gb).bV g5 q9 (by decide) (by decide) hg).ax R6.gb).bV g7 uI (by decide) (by decide) hg
  refine⟨⟨by omega,by omega⟩,_,_,⟨i+1,rs.set i (r,.slice tN r.rows.length rc',.slice qi r.aW.length qj),rfl,by omega,rfl,by rw[List.length_set];exact hlen,?_,L7,λj x hj hxj=>?_,λj hj=>?_⟩,⟨rfl,rfl,rfl,rfl,trivial⟩,by omega⟩
  ·rw[List.map_set,hmap]
   refine List.ext_getElem? λk=>?_
   rw[jb (by rw[List.length_map];exact d1)];split
   ·rename_i h;subst h;rw[List.getElem?_map,hx];rfl
   ·rfl
  ·rw[jb (by omega)]at hxj
   split at hxj
   ·cases hxj;exact Rn
   ·exact stay x (hnew j x (by omega) hxj)
  ·rw[jb (by omega),if_neg (by omega)]
   exact hold j (by omega)
 ·have d1:i=ps.length:=by have:=of_decide_eq_false d;omega
  rw[<-hlen]at d1;refine⟨rs,hmap,by rw[<-hlen];exact L,λx hx=>?_⟩;obtain⟨j,hj,rfl⟩:=List.getElem_of_mem hx;exact hnew j _ (by omega) (List.getElem?_eq_getElem hj)
end
