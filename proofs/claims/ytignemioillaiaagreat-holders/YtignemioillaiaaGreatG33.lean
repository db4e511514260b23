/- Lemmas. -/
import Derived.Test.YtignemioillaiaaGreatG32
namespace Go.Proofs.YtignemioillaiaaGreat
set_option maxHeartbeats 8000000
set_option maxRecDepth 100000
open List
section
open Go Go.Conc
theorem PI(q:List bJ)(t:Nat):(flat q).drop (t*5)=flat (q.drop t):=by
 induction q generalizing t with
 |nil=>simp[flat]
 |cons p q ih =>
  cases t with
  |zero=>simp
  |succ t =>
   rw[show flat (p::q)=p.cells++flat q by simp[flat],drop_append,show p.cells.length=5 from rfl,show(t+1)*5 - 5=t*5 by omega,ih];rw[drop_eq_nil_of_le (by show 5<=_;omega)];simp
theorem R8(q:List bJ):(flat q).all one=true:=by
 rw[all_eq_true];intro u hu;unfold flat at hu;obtain⟨p,_,hp⟩:=mem_flatMap.1 hu;simp only[bJ.cells,mem_cons,not_mem_nil,or_false]at hp;rcases hp with rfl|rfl|rfl|rfl|rfl<;>rfl
theorem acw{w:World}{q:List bJ}{sa:Option Addr}{sc:Nat}(h:w.ownsRow 0 139 5 (.slice sa q.length sc) q.length (flat q)){t:Nat}(ht:t<=q.length):Fz w 139 5 (.slice (if sc=t then sa else sa.map (·.add (t*5))) (q.length - t) (sc - t)) (q.length - t) (flat (q.drop t)):=by
 have hl:(flat (q.drop t)).length=(q.length - t)*5:=by rw[Zd,length_drop]
 rcases h.2 with⟨e,h0⟩|⟨g,cap,cur,e,h0,h2,h3,h4,h5,h6⟩
 ·injection e with e1 _ e3
  subst e1;subst e3;exact⟨none,0 - t,by split<;>rfl,by omega,hl,.inl ⟨rfl,by omega⟩⟩
 ·injection e with e1 _ e3
  subst e1;subst e3;by_cases c:sc=t
  ·have:q.length=t:=by omega
   refine⟨_,_,rfl,by omega,hl,.inr ⟨g,0,cur,by rw[if_pos c],h2,?_⟩⟩;rw[show q.length - t=0 by omega,Nat.zero_mul,drop_eq_nil_of_le (by omega)];simp[aK,flat]
  ·refine⟨_,_,rfl,by omega,hl,.inr ⟨g,t*5,cur,by rw[if_neg c];simp[Addr.add];omega,h2,?_⟩⟩
   rw[<-PI,<-h6];unfold aK;rw[drop_take,Nat.sub_mul]
section
variable{Λ:bU}{w:World}{bc:Nat}{C:aL}
theorem rH(h:uP Λ bc C w)(hlen:C.q.length<=20000)(fr:Int)(hlo : -9223372036854775808<=fr)(hhi:fr<9223372036854775808):ag Tryz.prog 22 #[Ptt bc,.int .i64 fr] w (λv w'=>w'.ownsRow 0 139 5 v (C.q.length - min fr.toNat C.q.length) (flat (C.q.drop (min fr.toNat C.q.length)))/\GB none w w'/\∀x,v.ownBlock=some x->w.heap.size<=x):=by
 obtain⟨gv,sv,B,ad,h⟩:=h;refine ah Tryz.func22 rfl rfl ?_;obtain⟨sa,sc,rfl⟩:=af h.ci.row;refine⟨_,_,h.ci.fC,_,rfl,_,_,h.ci.fC,_,rfl,?_⟩;obtain⟨t,et⟩:∃t,t=min fr.toNat C.q.length:=⟨_,rfl⟩;rw[<-et];have hl:(if(C.q.length:Int)<(if(0:Int) > fr then 0 else fr)then(C.q.length:Int)else if(0:Int) > fr then 0 else fr)=(t:Int):=by
  split
  ·split at * <;> omega
  ·split at * <;> omega
 have hc:C.q.length<=sc:=by
  rcases h.ci.row.2 with⟨e,h0⟩|⟨g,cap,cur,e,h0,h2,h3,_⟩
  ·omega
  ·injection e with _ _ e3;subst e3;exact h3
 have hz:=acw h.ci.row (t:=t) (by omega);refine⟨⟨by rw[hl];omega,by rw[hl];omega,hc⟩,?_⟩;refine⟨_,?_,λv w' hp=>hp⟩;have:=Vb hz (R8 _) (by omega);have e:∀l:Int,l=(t:Int)->ag Tryz.prog 62 #[.slice (if sc=l.toNat then sa else sa.map (·.add (l.toNat*5))) (C.q.length - l.toNat) (sc - l.toNat)] w _:=λl hl=>by subst hl;exact this
 exact e _ hl
end
section
variable{A:aO}(HA:bH A){Λ:bU}{w:World}{bc:Nat}{C:aL}
include HA
end
def lf(l:List MC)(vs:List (Value×Value)):List Value:=(zipWith (λc p=>dC c p.1 p.2) l vs).flatten
theorem lS(c:MC)(l:List MC)(p:Value×Value)(vs:List (Value×Value)):lf (c::l) (p::vs)=dC c p.1 p.2++lf l vs:=by simp[lf]
theorem PK:∀{l:List MC} {vs:List (Value×Value)} {k:Nat} {c:MC} {p:Value×Value},l[k]? = some c->vs[k]? = some p->aK (lf l vs) (k*17) 17=dC c p.1 p.2
 | [],_,_,_,_,h,_=>by simp at h
 |_::_,[],_,_,_,_,h=>by simp at h
 |c::l,p::vs,0,_,_,h1,h2=>by
  simp at h1 h2;subst h1;subst h2;rw[lS];unfold aK;simp[dC]
 |c::l,p::vs,k+1,_,_,h1,h2=>by
  rw[lS];unfold aK;rw[drop_append,drop_eq_nil_of_le (by show 17<=_;omega),nil_append,show(dC c p.1 p.2).length=17 from rfl,show(k+1)*17 - 17=k*17 by omega];exact PK (l:=l) (vs:=vs) (by simpa using h1) (by simpa using h2)
theorem NI:∀{l:List MC} {vs:List (Value×Value)} {k:Nat} {p:Value×Value} (rv:Value),k<l.length->vs[k]? = some p->(lf l vs).set (k*17+13) rv=lf l (vs.set k (rv,p.2))
 | [],_,_,_,_,h,_=>by simp at h
 |_::_,[],_,_,_,_,h=>by simp at h
 |c::l,p::vs,0,_,rv,_,h2=>by
  simp at h2;subst h2;rw[set_cons_zero,lS,lS,set_append_left _ _ (by show 0*17+13<17;omega)];rfl
 |c::l,p::vs,k+1,_,rv,h1,h2=>by
  rw[set_cons_succ,lS,lS,set_append_right _ _ (by show 17<=_;omega),show(k+1)*17+13 - (dC c p.1 p.2).length=k*17+13 by show _ - 17=_;omega];rw[NI (l:=l) (vs:=vs) rv (by simpa using h1) (by simpa using h2)]
theorem NJ:∀{l:List MC} {vs:List (Value×Value)} {k:Nat} {p:Value×Value} (dv:Value),k<l.length->vs[k]? = some p->(lf l vs).set (k*17+14) dv=lf l (vs.set k (p.1,dv))
 | [],_,_,_,_,h,_=>by simp at h
 |_::_,[],_,_,_,_,h=>by simp at h
 |c::l,p::vs,0,_,rv,_,h2=>by
  simp at h2;subst h2;rw[set_cons_zero,lS,lS,set_append_left _ _ (by show 0*17+14<17;omega)];rfl
 |c::l,p::vs,k+1,_,rv,h1,h2=>by
  rw[set_cons_succ,lS,lS,set_append_right _ _ (by show 17<=_;omega),show(k+1)*17+14 - (dC c p.1 p.2).length=k*17+14 by show _ - 17=_;omega];rw[NJ (l:=l) (vs:=vs) rv (by simpa using h1) (by simpa using h2)]
theorem NK{w:World}:∀{l:List MC} {vs:List (Value×Value)},(∀(i:Nat) (c:MC) (p:Value×Value),l[i]? = some c->vs[i]? = some p->aM w c.r p.1 p.2)->(lf l vs).all one=true
 | [],_,_=>rfl
 |_::_,[],_=>rfl
 |c::l,p::vs,h=>by
  rw[lS,all_append,NK (l:=l) (vs:=vs) λi c p h1 h2=>h (i+1) c p (by simpa using h1) (by simpa using h2),Bool.and_true];obtain⟨rv,dv⟩:=p;obtain⟨ra,rn,rc,da,dn,dc,e1,e2⟩:=(h 0 c (rv,dv) rfl rfl).sl;have e1:rv=_:=e1;have e2:dv=_:=e2;subst e1;subst e2;rfl
theorem gH{xs:List Value}{off:Nat}{v:Value}(hv:one v=true)(hc:v.cells.toList=[v])(h:off<xs.length):GD xs off 1 v=true:=by
 unfold GD;rw[hc];simp[hv];exact h
theorem Yt{w w':World}{e:TypeId}{size n g cap off:Nat}{xs:List Value}{v:Value}{cur:Array Value}(h:w.ownsRow 0 e size (.slice (Pty g) n cap) n xs)(aR:w.heap[g]? = some (.cells cur e))(hw:w'.heap[g]? = some (.cells (cur.toList.take off++[v]++cur.toList.drop (off+1)).toArray e))(ho:off<n*size):w'.ownsRow 0 e size (.slice (Pty g) n cap) n (xs.set off v):=by
 rcases h.2 with⟨q,h0⟩|⟨g',cap',cur',q,h0,h2,h3,h4,h5,h6⟩
 ·cases q
 ·injection q with q1 _ q3
  injection q1 with q1;injection q1 with q1;subst q1;subst q3;rw[aR]at h2;injection h2 with h2;injection h2 with h2 _;subst h2;have hlen:xs.length=n*size:=h.1;have hl:n*size<=cur.toList.length:=by
   have:=congrArg length h6;rw[length_take]at this;omega
  have hs:cur.toList.take off++[v]++cur.toList.drop (off+1)=cur.toList.set off v:=by
   rw[set_eq_take_append_cons_drop,if_pos (by omega)];simp
  rw[hs]at hw;refine⟨by rw[length_set];exact hlen,.inr ⟨g,cap,_,rfl,h0,hw,h3,h4,?_,?_⟩⟩
  ·simp[h5]
  ·show(cur.toList.set off v).take (n*size)=_
   rw[take_set,h6]
theorem jw{α:Type}{f:α->List Value}(hf:∀x,(f x).all one=true)(l:List α):(l.map f).flatten.all one=true:=by
 induction l with
 |nil=>rfl
 |cons x l ih=>rw[map_cons,flatten_cons,all_append,hf,ih];rfl
theorem own_set'{w w':World}{e:TypeId}{size n g cap off:Nat}{xs:List Value}{v:Value}{cur:Array Value}(h:w.ownsRow 0 e size (.slice (Pty g) n cap) n xs)(aR:w.heap[g]? = some (.cells cur e)){off' s1:Nat}{vc:List Value}(hw:w'.heap[g]? = some (.cells (cur.toList.take off'++vc++cur.toList.drop (off'+s1)).toArray e))(e1:off'=off)(e2:s1=1)(e3:vc=[v])(ho:off<n*size):w'.ownsRow 0 e size (.slice (Pty g) n cap) n (xs.set off v):=by
 subst e1;subst e2;subst e3;exact Yt h aR hw ho
section
variable{A:aO}(HN:dH A){Λ:bU}{w:World}{bc:Nat}{C:aL}
include HN
theorem acx(h:uP Λ bc C w)(hf:C.aJ A)(g i:Nat)(hg:g<C.n)(hi:i<C.sz):ag Tryz.prog 25 #[Ptt bc,.agg #[.int .u8 g,.int .u8 i]] w (λv w'=>jV w' v (C.F g i).log/\GB none w w'/\∀x,v.ownBlock=some x->w.heap.size<=x):=by
 obtain⟨gv,sv,B,ad,h⟩:=h;have hn:=hf.n;have hz:=hf.sz;have hok:=hf.ok g i hg hi;have hll:=hok.lg;refine ah Tryz.func25 rfl rfl ?_;refine λw1 b1 m1 g1 l1=>?_
 have h1:=h.au g1;refine⟨_,_,m1,[.int .u8 g,.int .u8 i],rfl,rfl,_,find_ok h1.ci hf.n hf.sz g i (by omega) (by omega),?_⟩;rintro _ w2 ⟨rfl,g2⟩;rw[if_pos ⟨hg,hi⟩];have h2:=h1.au g2;have hR:=h2.ci.rep g i hg hi;obtain⟨vs,v1,v2,v3⟩:=hR.lg;refine⟨_,_,hR.mem,_,rfl,_,Vd (mK v2) (NK v3) (by omega),?_⟩;rintro lv w3 ⟨o3,g3,n3⟩;have G3:=(g1.trans g2).trans g3;have L3:jV w3 lv (C.F g i).log:=⟨vs,v1,o3,λi c p a b=>(v3 i c p a b).kz g3.kz⟩;obtain⟨la,lc,rfl⟩:=af o3;have WN:∀x,(Value.slice la (C.F g i).log.length lc).ownBlock=some x->w.heap.size<=x:=λx hx=>by have:=n3 x hx;have:=(g1.trans g2).size;omega
 clear o3 v3 v2 v1 vs;refine⟨λm s wk=>∃k:Nat,m=(C.F g i).log.length - k/\k<=(C.F g i).log.length/\s=[(6,.slice la (C.F g i).log.length lc),(19,.slice la (C.F g i).log.length lc),(20,.int .i64 (C.F g i).log.length),(21,.int .i64 k)]/\jV wk (.slice la (C.F g i).log.length lc) (C.F g i).log/\GB none w wk,⟨_,_,⟨0,rfl,Nat.zero_le _,rfl,L3,G3⟩,rfl,rfl,rfl,rfl,trivial⟩,?_⟩;rintro m s wk ⟨k,rfl,hk,rfl,⟨vs,v1,v2,v3⟩,gk⟩;refine aj (λc=>?_) (λc=>?_)
 ·have c1:k<(C.F g i).log.length:=by simp at c;omega
  obtain⟨c,hc⟩:∃c,(C.F g i).log[k]? = some c:=⟨(C.F g i).log[k],by simp[c1]⟩;obtain⟨p,hp⟩:∃p,vs[k]? = some p:=⟨vs[k],by simp[v1,c1]⟩;obtain⟨gb,cap,cur,ev,aR,htk,hsz,hcap⟩:=jD v2 (by omega);injection ev with ev _ R9;subst ev;subst R9;have hel:aK cur.toList (k*17) 17=dC c p.1 p.2:=by
   rw[<-PK hc hp,show lf (C.F g i).log vs=_ from htk.symm];unfold aK;rw[drop_take,take_take,Nat.min_eq_left (by omega)]
  have hrg:=v3 k c p hc hp;obtain⟨rb1,rb2⟩:=HN.rl c (hok.lc c (List.mem_of_getElem? hc));obtain⟨rv,dv⟩:=p;obtain⟨ra,rn,rc,da,dn,dc,e1,e2⟩:=hrg.sl;have e1:rv=_:=e1;have e2:dv=_:=e2;subst e1;subst e2;have lgb:w.heap.size<=gb:=WN gb rfl;refine⟨by omega,_,_,aR,dC c _ _,by show aK cur.toList (0+k*17) 17=_;rw[Nat.zero_add];exact hel,rfl,λw4 b4 m4 g4 l4=>⟨_,_,_,m4,rfl,rfl,λw5 m5 g5=>?_⟩⟩;have WM:GB none wk w5:=g4.new g5 l4;have nb:gb≠b4:=by have:=ae aR;omega
  refine⟨_,_,m5,_,rfl,_,RZ (hrg.1.kz WM.kz (by decide)) (jw (λ_=>rfl) _) (by omega),?_⟩;rintro rv' w6 ⟨o6,g6,n6⟩;have Bj:=WM.trans g6;have uZ:=Bj.get aR nofun;obtain⟨uo,rc',rfl⟩:=af o6;refine⟨by omega,_,_,_,uZ,gH rfl rfl (by rw[Array.length_toList];show 0+k*17+13<_;omega),rfl,λw7 m7 g7=>?_⟩;have o7:=own_set' (off:=k*17+13) (ay v2 λx hx=>by cases hx;exact Bj.block gb (ae aR) nofun) uZ m7 (by show 0+(k:Int).toNat*17+8+5=_;omega) rfl rfl (by omega);rw[show(zipWith (λ(c:MC) (p:Value×Value)=>dC c p.1 p.2) (C.F g i).log vs).flatten=lf (C.F g i).log vs from rfl,NI _ c1 hp]at o7;have m57:w7.heap[b4]? = _:=g7.get (g6.get m5 nofun) λe=>nb (Option.some.inj e).symm
  have Rl:Kz w6 w7:=g7.De λc' t ht hc'=>by rw[uZ]at hc';injection hc' with hc';injection hc' with _ hc';subst hc';revert ht;decide
  have G7:GB none w w7:=(gk.trans Bj).new g7 lgb;have r7:=(mK o6).kz Rl (by decide);refine⟨_,_,m57,_,rfl,_,R7 ((hrg.2.kz Bj.kz (by decide)).kz Rl (by decide)) (jw (λ_=>rfl) _) (by omega),?_⟩;rintro eU w8 ⟨o8,g8,n8⟩;have PL:=g8.get m7 nofun;obtain⟨sj,su,rfl⟩:=af o8;refine⟨by omega,_,_,_,PL,gH rfl rfl ?_,rfl,λw9 m9 g9=>?_⟩
  ·rw[Array.length_toList]
   obtain⟨g7',_,ahL,e7,NL,_,hs7,_⟩:=jD o7 (by omega);injection e7 with e7 _ _;injection e7 with e7;injection e7 with e7;subst e7;rw[m7]at NL;injection NL with NL;injection NL with NL _;rw[NL];show 0+(k:Int).toNat*17+8+6<_;omega
  have o9:=own_set' (off:=k*17+14) (ay o7 λx hx=>by cases hx;exact g8.block gb (ae m7) nofun) PL m9 (by show 0+(k:Int).toNat*17+8+6=_;omega) rfl rfl (by omega);have hp':(vs.set k (Value.slice uo c.r.rows.length rc',Value.slice da dn dc))[k]? = some (Value.slice uo c.r.rows.length rc',Value.slice da dn dc):=by simp[v1,c1]
  rw[NJ _ c1 hp',set_set]at o9;have k89:Kz w8 w9:=g9.De λc' t ht hc'=>by rw[PL]at hc';injection hc' with hc';injection hc' with _ hc';subst hc';revert ht;decide
  have k09:Kz wk w9:=((Bj.kz.trans Rl).trans g8.kz).trans k89;refine⟨by omega,_,_,⟨k+1,rfl,by omega,rfl,⟨_,by rw[length_set];exact v1,o9,λj c' p' h1 h2=>?_⟩,(G7.trans g8).new g9 lgb⟩,⟨rfl,rfl,rfl,rfl,trivial⟩,by omega⟩;by_cases e:j=k
  ·subst e
   rw[hc]at h1;cases h1
   rw[getElem?_set_self (by rw[v1];exact c1)]at h2;cases h2
   exact⟨(r7.kz g8.kz (by decide)).kz k89 (by decide),(mK o8).kz k89 (by decide)⟩
  ·rw[getElem?_set_ne (λh=>e h.symm)]at h2
   exact(v3 j c' p' h1 h2).kz k09
 ·exact⟨⟨vs,v1,v2,v3⟩,gk,WN⟩
end
abbrev Ra:=Rg×Value×Value
abbrev uS(x:Ra):List Value:=eu x.1 x.2.1 x.2.2
structure sF(w0 w:World)(x:Ra):Prop where
 r:LN 128 2 w0 w x.2.1 x.1.rows.length (x.1.rows.map Row.cells).flatten
 d:LN 57 7 w0 w x.2.2 x.1.aZ.length (x.1.aZ.map aA.cells).flatten
structure QN(w0 w:World)(q:Value)(rs:List Ra):Prop where
 q:LN 52 7 w0 w q rs.length (rs.map uS).flatten
 r:∀x∈rs,sF w0 w x
theorem KN{α:Type}{f:α->List Value}{size:Nat}(hf:∀x,(f x).length=size){j:Nat}(hj:j<size){x x':α}{v:Value}(hx:(f x).set j v=f x'):∀(l:List α) (i:Nat),l[i]? = some x->(l.map f).flatten.set (i*size+j) v=((l.set i x').map f).flatten
 | [],_,h=>by simp at h
 |y::l,0,h=>by
  simp at h;subst h;rw[set_cons_zero,map_cons,map_cons,flatten_cons,flatten_cons,Nat.zero_mul,Nat.zero_add,set_append_left _ _ (by rw[hf];exact hj),hx]
 |y::l,i+1,h=>by
  rw[set_cons_succ,map_cons,map_cons,flatten_cons,flatten_cons,set_append_right _ _ (by rw[hf,Nat.succ_mul];omega),hf,show(i+1)*size+j - size=i*size+j by rw[Nat.succ_mul];omega];rw[KN hf hj hx l i (by simpa using h)]
section
variable{e size:Nat}{w0 w w':World}{v:Value}{n:Nat}{xs:List Value}
theorem LN.bV(h:LN e size w0 w v n xs){x t:Nat}{c:Array Value}(g:GB (some x) w w')(hx:w.heap[x]? = some (.cells c t))(ht:t≠e)(hn:w0.heap.size<=x):LN e size w0 w' v n xs :=
 ⟨ay h.own λy hy=>by obtain⟨c',hc⟩:=ax h.own hy;exact g.block y (ae hc) λz=>dw hc hx ht.symm (Option.some.inj z),h.gb.new g hn,h.new⟩
theorem LN.base{wb:World}(h:LN e size w0 w v n xs)(g:GB none wb w0):LN e size wb w v n xs:=⟨h.own,g.trans h.gb,λx hx=>Nat.le_trans g.size (h.new x hx)⟩
theorem sF.au{x:Ra}(h:sF w0 w x)(g:GB none w w'):sF w0 w' x:=⟨h.r.au g,h.d.au g⟩
theorem sF.bV{y:Ra}(h:sF w0 w y){x t:Nat}{c:Array Value}(g:GB (some x) w w')(hx:w.heap[x]? = some (.cells c t))(h1:t≠128)(h2:t≠57)(hn:w0.heap.size<=x):sF w0 w' y:=⟨h.r.bV g hx h1 hn,h.d.bV g hx h2 hn⟩
theorem QN.au{q:Value}{rs:List Ra}(h:QN w0 w q rs)(g:GB none w w'):QN w0 w' q rs:=⟨h.q.au g,λx hx=>(h.r x hx).au g⟩
theorem QN.bV{q:Value}{rs:List Ra}(h:QN w0 w q rs){x t:Nat}{c:Array Value}(g:GB (some x) w w')(hx:w.heap[x]? = some (.cells c t))(h1:t≠128)(h2:t≠57)(h3:t≠52)(hn:w0.heap.size<=x):QN w0 w' q rs:=⟨h.q.bV g hx h3 hn,λy hy=>(h.r y hy).bV g hx h1 h2 hn⟩
end
theorem qE.ra{w:World}{q:Value}{l:List Rg}(h:qE w q l):∃ps:List Ra,ps.map (·.1)=l/\Fz w 52 7 q ps.length (ps.map uS).flatten/\∀x∈ps,aM w x.1 x.2.1 x.2.2:=by
 obtain⟨vs,h1,h2,h3⟩:=h;have hz:zipWith (λr (p:Value×Value)=>eu r p.1 p.2) l vs=(l.zip vs).map uS:=by
  rw[zip_eq_zipWith,map_zipWith]
 refine⟨l.zip vs,map_fst_zip (by omega),?_,λx hx=>?_⟩
 ·rw[<-hz,show(l.zip vs).length=l.length by rw[length_zip];omega];exact h2
 ·obtain⟨i,hi,rfl⟩:=getElem_of_mem hx
  have e:=getElem?_eq_getElem hi;rw[getElem?_zip_eq_some]at e;exact h3 i _ _ e.1 e.2
theorem Yu{w:World}{ps:List Ra}(h:∀x∈ps,aM w x.1 x.2.1 x.2.2):(ps.map uS).flatten.all one=true:=by
 induction ps with
 |nil=>rfl
 |cons x l ih =>
  rw[map_cons,flatten_cons,all_append,ih λy hy=>h y (mem_cons_of_mem _ hy),Bool.and_true];obtain⟨r,rv,dv⟩:=x;obtain⟨ra,rn,rc,da,dn,dc,e1,e2⟩:=(h (r,rv,dv) mem_cons_self).sl;have e1:rv=_:=e1;have e2:dv=_:=e2;subst e1;subst e2;rfl
theorem LN.at{e size:Nat}{w0 w:World}{v:Value}{α:Type}{f:α->List Value}{l:List α}(h:LN e size w0 w v l.length (l.map f).flatten)(hf:∀x,(f x).length=size){i:Nat}{x:α}(hx:l[i]? = some x):∃g cap cur,v=.slice (Pty g) l.length cap/\w0.heap.size<=g/\w.heap[g]? = some (.cells cur e)/\aK cur.toList (0+(i:Int).toNat*size) size=f x/\l.length*size<=cur.size:=by
 have hi:=(List.getElem?_eq_some_iff.1 hx).1;obtain⟨g,cap,cur,ev,aR,htk,hsz,hcap⟩:=jD h.own (by omega);subst ev;refine⟨g,cap,cur,rfl,h.new g rfl,aR,?_,hsz⟩;refine lG hf hx ?_;unfold aK;rw[drop_zero];exact htk
theorem LN.set{e size:Nat}{w0 w w':World}{α:Type}{f:α->List Value}{l:List α}{g cap:Nat}{cur:Array Value}(h:LN e size w0 w (.slice (Pty g) l.length cap) l.length (l.map f).flatten)(hf:∀x,(f x).length=size)(aR:w.heap[g]? = some (.cells cur e)){i j:Nat}{x x':α}{v:Value}(hx:l[i]? = some x)(hj:j<size)(hxx:(f x).set j v=f x'){off' s1:Nat}{vc:List Value}(hw:w'.heap[g]? = some (.cells (cur.toList.take off'++vc++cur.toList.drop (off'+s1)).toArray e))(e1:off'=i*size+j)(e2:s1=1)(e3:vc=[v])(gb:GB (some g) w w'):LN e size w0 w' (.slice (Pty g) (l.set i x').length cap) (l.set i x').length ((l.set i x').map f).flatten:=by
 have hi:=(List.getElem?_eq_some_iff.1 hx).1;have h2:(i+1)*size<=l.length*size:=Nat.mul_le_mul_right _ hi;rw[Nat.succ_mul]at h2;have:=own_set' h.own aR hw e1 e2 e3 (by omega);rw[KN hf hj hxx l i hx]at this;rw[length_set];exact⟨this,h.gb.new gb (h.new g rfl),h.new⟩
theorem ji{α:Type}{l:List α}{i j:Nat}{x:α}(hi:i<l.length):(l.set i x)[j]? = if j=i then some x else l[j]?:=by
 by_cases h:j=i
 ·subst h;rw[if_pos rfl];simp[hi]
 ·rw[if_neg h,getElem?_set_ne (λe=>h e.symm)]
theorem Sa{w:World}{q:Value}{l:List Rg}(h:qE w q l)(hl:l.length<=100000)(hs:∀r∈l,r.rows.length<=1000000/\r.aZ.length<=1000000):ag Tryz.prog 81 #[q] w (λv w'=>∃rs:List Ra,rs.map (·.1)=l/\QN w w' v rs):=by
 obtain⟨ps,rfl,hf,hr⟩:=h.ra;rw[length_map]at hl;obtain⟨qa,qc,rfl,hrest⟩:=hf;have hf:Fz w 52 7 (.slice qa ps.length qc) ps.length (ps.map uS).flatten:=⟨qa,qc,rfl,hrest⟩;refine ah Tryz.func81 rfl rfl ?_;refine⟨_,RP hf (Yu hr) (by omega),?_⟩;intro v w1 L;obtain⟨va,vc,rfl⟩:=af L.own;refine⟨λn s wk=>∃(i:Nat) (rs:List Ra),n=ps.length - i/\i<=ps.length/\s=[(0,.slice va ps.length vc),(7,.slice va ps.length vc),(8,.int .i64 ps.length),(9,.int .i64 i)]/\rs.length=ps.length/\rs.map (·.1)=ps.map (·.1)/\LN 52 7 w wk (.slice va rs.length vc) rs.length (rs.map uS).flatten/\(∀j x,j<i->rs[j]? = some x->sF w wk x)/\(∀j,i<=j->rs[j]? = ps[j]?),⟨_,_,⟨0,ps,rfl,Nat.zero_le _,rfl,rfl,rfl,L,λ_ _ h=>by omega,λ_ _=>rfl⟩,rfl,rfl,rfl,rfl,trivial⟩,?_⟩;clear L;rintro n s wk ⟨i,rs,rfl,hi,rfl,hlen,hmap,L,hnew,hold⟩;refine aj (λd=>?_) (λd=>?_)
 ·have d1:i<ps.length:=by have:=Ptq d;omega
  obtain⟨⟨r,rv,dv⟩,hx⟩:∃x,ps[i]? = some x:=⟨ps[i],by simp[d1]⟩;have hx':rs[i]? = some (r,rv,dv):=(hold i (Nat.le_refl _)).trans hx;have hmem:=List.mem_of_getElem? hx;have hrg:=hr _ hmem;obtain⟨ra,rn,rc,da,dn,dc,e1,e2⟩:=hrg.sl;have e1:rv=_:=e1;have e2:dv=_:=e2;subst e1 e2;obtain⟨hb1,hb2⟩:=hs r (mem_map.2 ⟨_,hmem,rfl⟩);obtain⟨g,cap,cur,ev,hg,aR,hcut,hsz⟩:=L.at (f:=uS) (λ_=>rfl) hx';injection ev with ea _ ec;subst ea ec;refine⟨by omega,_,_,aR,eu r (.slice ra rn rc) (.slice da dn dc),hcut,rfl,λw2 b2 m2 g2 l2=>⟨_,_,_,m2,rfl,rfl,λw3 m3 g3=>?_⟩⟩;have G3:=g2.new g3 l2;have nb:g≠b2:=by have:=ae aR;omega
  have L3:=L.au G3;have acy:=G3.get aR nofun;have Gw:=L3.gb;refine⟨_,_,m3,_,rfl,_,Iz (hrg.1.kz Gw.kz (by decide)) (jw (λ_=>rfl) _) hb1,?_⟩;intro rv' w4 R4;obtain⟨uo,rc',rfl⟩:=af R4.own;have rJ:=R4.gb.get acy nofun;have L4:=L3.au R4.gb;refine⟨by omega,_,_,_,rJ,gH rfl rfl (by rw[Array.length_toList];show 0+(i:Int).toNat*7+5<_;omega),rfl,λw5 m5 g5=>?_⟩;have hi7:0+(i:Int).toNat*7+5=i*7+5:=by omega
  have hi8:0+(i:Int).toNat*7+6=i*7+6:=by omega
  have L5:=L4.set (f:=uS) (x':=(r,.slice uo r.rows.length rc',.slice da dn dc)) (λ_=>rfl) rJ hx' (by decide) rfl m5 hi7 rfl rfl g5;have R5:=(R4.base Gw).bV g5 rJ (by decide) hg;have m35:w5.heap[b2]? = _:=g5.get (R4.gb.get m3 nofun) λe=>nb (Option.some.inj e).symm
  have D5:=((hrg.2.kz Gw.kz (by decide)).kz R4.gb.kz (by decide)).bV g5 rJ (by decide);refine⟨_,_,m35,_,rfl,_,IA D5 (jw (λ_=>rfl) _) hb2,?_⟩;intro eU w6 R6;obtain⟨sj,su,rfl⟩:=af R6.own;have hx6:(rs.set i (r,Value.slice uo r.rows.length rc',Value.slice da dn dc))[i]? = some (r,.slice uo r.rows.length rc',.slice da dn dc):=by rw[ji (by omega),if_pos rfl]
  have L6:=L5.au R6.gb;obtain⟨g',cap',ahM,ev6,hg6,uZ,ahy,afe⟩:=L6.at (f:=uS) (λ_=>rfl) hx6;injection ev6 with Sb _ ec6;injection Sb with Sb;injection Sb with Sb;subst Sb ec6;rw[length_set]at afe;refine⟨by omega,_,_,_,uZ,gH rfl rfl (by rw[Array.length_toList];show 0+(i:Int).toNat*7+6<_;omega),rfl,λw7 m7 g7=>?_⟩;have L7:=L6.set (f:=uS) (x':=(r,.slice uo r.rows.length rc',.slice sj r.aZ.length su)) (λ_=>rfl) uZ hx6 (by decide) rfl m7 hi8 rfl rfl g7;rw[set_set]at L7;have Rn:sF w w7 (r,.slice uo r.rows.length rc',.slice sj r.aZ.length su):=⟨(R5.au R6.gb).bV g7 uZ (by decide) hg,(R6.base L5.gb).bV g7 uZ (by decide) hg⟩;have stay:∀x,sF w wk x->sF w w7 x:=λx h=>((((h.au G3).au R4.gb).bV g5 rJ (by decide) (by decide) hg).au R6.gb).bV g7 uZ (by decide) (by decide) hg
  refine⟨by omega,_,_,⟨i+1,rs.set i (r,.slice uo r.rows.length rc',.slice sj r.aZ.length su),rfl,by omega,rfl,by rw[length_set];exact hlen,?_,L7,λj x hj hxj=>?_,λj hj=>?_⟩,⟨rfl,rfl,rfl,rfl,trivial⟩,by omega⟩
  ·rw[map_set,hmap]
   refine ext_getElem? λk=>?_
   rw[ji (by rw[length_map];exact d1)];split
   ·rename_i h;subst h;rw[getElem?_map,hx];rfl
   ·rfl
  ·rw[ji (by omega)]at hxj
   split at hxj
   ·cases hxj;exact Rn
   ·exact stay x (hnew j x (by omega) hxj)
  ·rw[ji (by omega),if_neg (by omega)]
   exact hold j (by omega)
 ·have d1:i=ps.length:=by have:=Ptx d;omega
  rw[<-hlen]at d1;refine⟨rs,hmap,by rw[<-hlen];exact L,λx hx=>?_⟩;obtain⟨j,hj,rfl⟩:=getElem_of_mem hx;exact hnew j _ (by omega) (getElem?_eq_getElem hj)
abbrev La:=Int×Value×List Ra
abbrev mV(l:La):List Value:=[.int .u32 l.1,l.2.1]
abbrev NM(l:La):Int×List Rg:=(l.1,l.2.2.map (·.1))
abbrev iJ(s:St)(T M D O I:Value):List Value:=[.int .u8 s.g,.int .u8 s.n,T,M,D,O,I]
structure SA(w0 w:World)(s:St)(T M D O I:Value)(ls:List La):Prop where
 t:LN 128 2 w0 w T s.T.length (s.T.map Row.cells).flatten
 m:PN w0 w M s.M
 d:LN 57 7 w0 w D s.D.length (s.D.map aA.cells).flatten
 o:LN 103 2 w0 w O ls.length (ls.map mV).flatten
 i:LN 47 1 w0 w I s.I.length (s.I.map λi=>Value.int .u32 i)
 q:∀l∈ls,QN w0 w l.2.1 l.2.2
 core:ls.map NM=s.O
 sT:∀l∈ls,∀x∈l.2.2,∀g,T.ownBlock=some g->x.2.1.ownBlock≠some g
 sD:∀l∈ls,∀x∈l.2.2,∀g,D.ownBlock=some g->x.2.2.ownBlock≠some g
 sQ:∀(i j:Nat) (l l':La),i≠j->ls[i]? = some l->ls[j]? = some l'->∀g,l.2.1.ownBlock=some g->l'.2.1.ownBlock≠some g
structure StS(s:St):Prop where
 t:s.T.length<=100000
 d:s.D.length<=100000
 m:s.M.length<=1000
 o:s.O.length<=100
 i:s.I.length<=100
 q:∀x∈s.O,x.2.length<=100000/\∀r∈x.2,r.rows.length<=1000000/\r.aZ.length<=1000000
theorem fG.la{w:World}{vT vM vD vO vI:Value}{s:St}(h:fG w vT vM vD vO vI s):∃ps:List La,ps.length=s.O.length/\Fz w 103 2 vO ps.length (ps.map mV).flatten/\(∀(j:Nat) (l:La),ps[j]? = some l->∃o,s.O[j]? = some o/\l.1=o.1/\qE w l.2.1 o.2):=by
 obtain⟨qs,h1,h2,h3⟩:=h.O;have hl:(zipWith (λ(o:Int×List Rg) q=>((o.1,q,[]):La)) s.O qs).length=s.O.length:=by rw[length_zipWith];omega
 refine⟨zipWith (λ(o:Int×List Rg) q=>((o.1,q,[]):La)) s.O qs,hl,?_,λj l hj=>?_⟩
 ·rw[hl,map_zipWith];exact h2
 ·rw[getElem?_zipWith]at hj
  cases ho:s.O[j]? with
  |none=>rw[ho]at hj;simp at hj
  |some o =>
   cases hq:qs[j]? with
   |none=>rw[ho,hq]at hj;simp at hj
   |some q =>
    rw[ho,hq]at hj;simp at hj;subst hj;exact⟨o,rfl,rfl,h3 j o q ho hq⟩
theorem Yv{w:World}{ps:List La}(h:∀l∈ps,∃rs,qE w l.2.1 rs):(ps.map mV).flatten.all one=true:=by
 induction ps with
 |nil=>rfl
 |cons x l ih =>
  rw[map_cons,flatten_cons,all_append,ih λy hy=>h y (mem_cons_of_mem _ hy),Bool.and_true];obtain⟨n,q,rs⟩:=x;obtain⟨rs',vs,_,⟨a,c,e,_⟩,_⟩:=h _ mem_cons_self;have e:q=_:=e;subst e;rfl
theorem zip_map'{α β γ:Type}(f:α->β->γ):∀l:List (α×β),zipWith f (l.map (·.1)) (l.map (·.2))=l.map λx=>f x.1 x.2
 | []=>rfl
 |_::l=>by simp only[map_cons,zipWith_cons_cons,zip_map' f l]
section
variable{w0 w w':World}{s:St}{T M D O I:Value}{ls:List La}
theorem SA.au(h:SA w0 w s T M D O I ls)(g:GB none w w'):SA w0 w' s T M D O I ls:=⟨h.t.au g,h.m.au g,h.d.au g,h.o.au g,h.i.au g,λl hl=>(h.q l hl).au g,h.core,h.sT,h.sD,h.sQ⟩
theorem SA.bV(h:SA w0 w s T M D O I ls){x t:Nat}{c:Array Value}(g:GB (some x) w w')(hx:w.heap[x]? = some (.cells c t))(h1:t≠128)(h2:t≠57)(h3:t≠52)(h4:t≠107)(h5:t≠103)(h6:t≠47)(hn:w0.heap.size<=x):SA w0 w' s T M D O I ls:=⟨h.t.bV g hx h1 hn,h.m.bV g hx h4 hn,h.d.bV g hx h2 hn,h.o.bV g hx h5 hn,h.i.bV g hx h6 hn,λl hl=>(h.q l hl).bV g hx h1 h2 h3 hn,h.core,h.sT,h.sD,h.sQ⟩
theorem Fz.over{e size n:Nat}{v:Value}{xs:List Value}(h:LN e size w0 w v n xs)(k:∀x,w0.heap.size<=x->x<w.heap.size->w'.heap[x]? = w.heap[x]?):Fz w' e size v n xs:=mK (ay h.own λx hx=>by obtain⟨c,hc⟩:=ax h.own hx;exact k x (h.new x hx) (ae hc))
theorem QN.over{q:Value}{rs:List Ra}(h:QN w0 w q rs)(k:∀x,w0.heap.size<=x->x<w.heap.size->w'.heap[x]? = w.heap[x]?):qE w' q (rs.map (·.1)):=by
 refine⟨rs.map (·.2),by simp,?_,λi x p hx hp=>?_⟩
 ·rw[zip_map' (λr (p:Value×Value)=>eu r p.1 p.2),length_map]
  exact Fz.over h.q k
 ·rw[getElem?_map]at hx hp
  cases ha:rs[i]? with
  |none=>rw[ha]at hx;cases hx
  |some y =>
   rw[ha]at hx hp;cases hx;cases hp
   have:=h.r y (List.mem_of_getElem? ha);exact⟨Fz.over this.r k,Fz.over this.d k⟩
theorem SA.over(h:SA w0 w s T M D O I ls)(k:∀x,w0.heap.size<=x->x<w.heap.size->w'.heap[x]? = w.heap[x]?):fG w' T M D O I s:=by
 have hO:=h.core;refine⟨Fz.over h.t k,Fz.over h.m k,Fz.over h.d k,⟨ls.map (·.2.1),by rw[<-hO];simp,?_,λi o q ho hq=>?_⟩,Fz.over h.i k⟩
 ·have e:zipWith (λ(o:Int×List Rg) q=>[Value.int .u32 o.1,q]) s.O (ls.map (·.2.1))=ls.map mV:=by
   rw[<-hO];clear hO h;induction ls with
   |nil=>rfl
   |cons x l ih=>rw[map_cons,map_cons,zipWith_cons_cons,ih];rfl
  rw[e,<-hO,length_map];exact Fz.over h.o k
 ·rw[<-hO,getElem?_map]at ho
  rw[getElem?_map]at hq;cases hl:ls[i]? with
  |none=>rw[hl]at ho;cases ho
  |some l =>
   rw[hl]at ho hq;cases ho;cases hq
   exact QN.over (h.q l (List.mem_of_getElem? hl)) k
end
end
