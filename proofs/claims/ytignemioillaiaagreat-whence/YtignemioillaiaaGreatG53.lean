/- What all logs make of their groups (package handoverkeep): folds. -/
import Derived.Test.YtignemioillaiaaGreatG52
namespace Go.Proofs.YtignemioillaiaaGreat
set_option maxHeartbeats 8000000
set_option maxRecDepth 100000
section
open Go Go.Conc
def NF(w w':World):Prop:=∀(x:Nat) (c:Array Value) (t:TypeId),w.heap[x]? = some (.cells c t)->t≠94->w'.heap[x]? = some (.cells c t)
theorem NF.of{w w':World}(g:GB none w w'):NF w w':=λ_ _ _ h _=>g.get h nofun
theorem NF.trans{w w' w'':World}(h:NF w w')(k:NF w' w''):NF w w'':=λx c t a b=>k x c t (h x c t a b) b
theorem NF.kz{w w':World}(h:NF w w'):Kz w w':=λt ht b c hb=>h b c t hb λe=>by subst e;revert ht;decide
theorem NF.own{w w':World}(h:NF w w'){e:TypeId}{size n:Nat}{v:Value}{xs:List Value}(o:w.ownsRow 0 e size v n xs)(he:e≠94):w'.ownsRow 0 e size v n xs:=az o λx hx=>by obtain⟨c,hc⟩:=ay o hx;rw[h x c e hc he,hc]
theorem jA.nf{w w':World}(h:NF w w'){v:Value}{l:List MC}(k:jA w v l):jA w' v l:=k.kz h.kz λx hx=>by obtain⟨c,hc⟩:=k.obj hx;rw[h x c _ hc (by decide),hc]
theorem zA.nf{w w':World}(h:NF w w'){v:Value}{l:List St}(k:zA w v l):zA w' v l:=by
 obtain⟨vs,k1,k2,k3⟩:=k;exact⟨vs,k1,h.own k2 (by decide),λi s x a b=>fM.kz (k3 i s x a b) h.kz⟩
structure xz(w:World)(p:Value×Value×Value)(f:List MC×List St):Prop where
 lg:jA w p.1 f.1
 st:zA w p.2.1 f.2
 rp:∃n xs,w.ownsRow 0 57 7 p.2.2 n xs
def BD(p:Value×Value×Value):List Value:=[p.1,p.2.1,p.2.2]
def pJ(w:World)(v:Value)(fs:List (List MC×List St)):Prop:=∃vs:List (Value×Value×Value),vs.length=fs.length/\w.ownsRow 0 94 3 v fs.length (vs.map BD).flatten/\∀(i:Nat) f p,fs[i]? = some f->vs[i]? = some p->xz w p f
theorem xz.nf{w w':World}(h:NF w w'){p:Value×Value×Value}{f:List MC×List St}(k:xz w p f):xz w' p f:=by
 obtain⟨n,xs,r⟩:=k.rp;exact⟨k.lg.nf h,k.st.nf h,n,xs,h.own r (by decide)⟩
theorem pJ.gb{w w':World}(g:GB none w w'){v:Value}{fs:List (List MC×List St)}(k:pJ w v fs):pJ w' v fs:=by
 obtain⟨vs,k1,k2,k3⟩:=k;exact⟨vs,k1,az k2 λx hx=>by obtain⟨c,hc⟩:=ay k2 hx;exact g.block x (ae hc) nofun,λi f p a b=>(k3 i f p a b).nf (.of g)⟩
theorem xz.sl{w:World}{p:Value×Value×Value}{f:List MC×List St}(h:xz w p f):∃a1 c1 a2 c2 a3 n3 c3,p=(.slice a1 f.1.length c1,.slice a2 f.2.length c2,.slice a3 n3 c3):=by
 obtain⟨vs,_,h1,_⟩:=h.lg;obtain⟨us,_,h2,_⟩:=h.st;obtain⟨n,xs,h3⟩:=h.rp;obtain⟨a1,c1,e1⟩:=af h1;obtain⟨a2,c2,e2⟩:=af h2;obtain⟨a3,c3,e3⟩:=af h3;obtain⟨x,y,z⟩:=p;exact⟨a1,c1,a2,c2,a3,n,c3,by rw[show x=_ from e1,show y=_ from e2,show z=_ from e3]⟩
def Sit.fold(A:aR)(S:Sit)(g:Nat):List MC×List St:=(S.bf.getD g [],dI A (A.bg g S.C.n) (S.bf.getD g []) (S.bf.getD g []).length)
section
variable{A:aR}(HA:bG A){Λ:bU}{w:World}{bs:Nat}{S:Sit}
include HA
theorem Yu(h:cZ Λ bs S w)(hF:S.aK A)(hN:S.C.n=A.N)(hb:∀g,g<S.C.n->(S.bf.getD g []).length<=60/\∀c∈S.bf.getD g [],A.gc c):ag Tryz.prog 30 #[Ptt bs] w (λv w'=>pJ w' v ((List.range S.C.n).map (S.fold A))/\GB none w w'):=by
 have ja:=hF.cl.n;obtain⟨bc,a,gv,sv0,B,ad,hS⟩:=h;refine tL ah Tryz.func30 rfl rfl ?_;refine CS.piece (Q:=λq w'=>q=[(0,Ptt bs)]/\w'=w) (CS.of ah mixed ⟨_,by exact⟨rfl,trivial⟩,rfl,rfl⟩) ?_;rintro _ w ⟨rfl,rfl⟩;refine CS.piece (Q:=λq w'=>q=[(0,Ptt bs),(3,.slice none 0 0)]/\w'=w) (CS.of ah mixed ⟨_,by exact⟨rfl,rfl,trivial⟩,rfl,rfl⟩) ?_;rintro _ w ⟨rfl,rfl⟩;refine CS.piece (Q:=λq w'=>∃v,q=[(3,v)]/\pJ w' v ((List.range S.C.n).map (S.fold A))/\GB none w w') ?_ ?_;rotate_left
 ·rintro _ w' ⟨v,rfl,h1,g1⟩
  obtain⟨va,vc,rfl⟩:∃a c,v=.slice a ((List.range S.C.n).map (S.fold A)).length c:=by obtain⟨_,_,o,_⟩:=h1;exact af o
  refine CS.of ah mixed ?_;exact⟨h1,g1⟩
 refine CS.piece (Q:=λq w'=>q=[(0,Ptt bs),(3,.slice none 0 0),(4,.int .i64 0)]/\w'=w) (CS.of ah mixed ⟨_,by exact⟨rfl,rfl,rfl,trivial⟩,rfl,rfl⟩) ?_;rintro _ w ⟨rfl,rfl⟩;refine CS.block ?_;refine CS.loop (λm s wk=>∃(i:Nat) (v:Value),m=S.C.n - i/\i<=S.C.n/\s=[(0,Ptt bs),(3,v),(4,.int .i64 i)]/\pJ wk v ((List.range i).map (S.fold A))/\GB none w wk/\∀x,v.ownBlock=some x->w.heap.size<=x) ⟨_,_,⟨0,_,rfl,Nat.zero_le _,rfl,⟨[],rfl,dY _ _ _,λi f p h=>by cases h⟩,GB.refl _ _,nofun⟩,rfl,rfl,rfl,trivial⟩ ?_;rintro m s wk ⟨i,v,rfl,hi,rfl,hv,gk,nv⟩;have hm:=(hS.ax gk).si.mem;refine CS.cut (Qn:=λq w'=>i<S.C.n/\q=[(0,Ptt bs),(3,v),(4,.int .i64 i)]/\w'=wk) (Qx:=λj q w'=>j=0/\i=S.C.n/\q=[(3,v)]/\w'=wk) (Qr:=λ_ _=>False) (CS.of ah mixed ?_) ?_ ?_ (λ_ _ _ h _=>h.elim)
 ·refine⟨_,_,hm,_,rfl,au (λc=>?_) (λc=>?_)⟩
  ·exact⟨_,by exact⟨rfl,rfl,rfl,trivial⟩,by have:=of_decide_eq_true c;omega,rfl,rfl⟩
  ·exact⟨_,by exact⟨rfl,trivial⟩,rfl,by have:=of_decide_eq_false c;omega,rfl,rfl⟩
 rotate_left
 ·rintro j q s w' ⟨rfl,rfl,rfl,rfl⟩ hs
  exact⟨_,hs,v,rfl,hv,gk⟩
 rintro _ wk ⟨c1,rfl,rfl⟩;refine CS.piece (Q:=λq w'=>∃v',q=[(0,Ptt bs),(3,v'),(4,.int .i64 i)]/\pJ w' v' ((List.range (i+1)).map (S.fold A))/\GB none w w'/\∀x,v'.ownBlock=some x->w.heap.size<=x) ?_ ?_;rotate_left
 ·rintro _ w' ⟨v',rfl,h1,h2,h3⟩
  obtain⟨va,vc,rfl⟩:∃a c,v'=.slice a ((List.range (i+1)).map (S.fold A)).length c:=by obtain⟨_,_,o,_⟩:=h1;exact af o
  refine CS.of ah mixed ?_;exact⟨⟨by omega,by omega⟩,_,_,⟨i+1,_,rfl,by omega,rfl,h1,h2,h3⟩,⟨rfl,rfl,rfl,trivial⟩,by omega⟩
 refine CS.block ?_;refine CS.piece (Q:=λq w'=>∃b5 p,q=[(0,Ptt bs),(3,v),(4,.int .i64 i),(5,Ptt b5)]/\w'.heap[b5]? = some (.cells (BD p).toArray 94)/\xz w' p (S.fold A i)/\GB none wk w') (CS.of ah mixed ?_) ?_
 ·refine⟨_,Vl HA ⟨_,_,_,_,_,_,hS.ax gk⟩ hF hN c1 (hb i c1).1 (hb i c1).2,?_⟩
  rintro _ w1 ⟨lv,sv,rv,rfl,f1,f2,f3,g1⟩;have fo:xz w1 (lv,sv,rv) (S.fold A i):=⟨f1,f2,_,f3⟩;obtain⟨a1,k1,a2,k2,a3,n3,k3,e⟩:=fo.sl;cases e
  refine λw2 b5 m5 g2 l5=>⟨_,_,_,m5,rfl,rfl,λw3 m3 g3=>?_⟩
  have G:GB none w1 w3:=g2.new g3 l5;exact⟨_,by exact⟨rfl,rfl,rfl,rfl,trivial⟩,b5,(.slice a1 _ k1,.slice a2 _ k2,.slice a3 n3 k3),rfl,m3,fo.nf (.of G),g1.trans G⟩
 rintro _ w3 ⟨b5,p,rfl,m5,fo,g3⟩;have hv:=hv.gb g3;obtain⟨vs,v1,v2,v3⟩:=hv;obtain⟨va,vc,rfl⟩:=af v2;obtain⟨a1,k1,a2,k2,a3,n3,k3,rfl⟩:=fo.sl;refine CS.of ah mixed ?_;refine⟨_,_,m5,BD _,rfl,rfl,λw6 b6 m6 g6 l6=>?_⟩;have v2':=az v2 λx hx=>by obtain⟨c,hc⟩:=ay v2 hx;exact g6.block x (ae hc) nofun
 have hlen:((List.range i).map (S.fold A)).length=i:=by simp
 refine⟨_,BD _,v2',⟨_,_,m6,rfl,rfl,rfl⟩,by omega,λv' w7 nY g7 n7=>?_⟩;have nf:NF w3 w7:=NF.trans (.of g6) λx c t hx ht=>g7.get hx λe=>by obtain⟨c',hc⟩:=ay v2' e.symm;rw[hx]at hc;injection hc with hc;injection hc with _ hc;exact ht hc
 have gw:GB none w w6:=(gk.trans g3).trans g6;obtain⟨la,lc,rfl⟩:=af nY;replace nY:w7.ownsRow 0 94 3 _ _ _:=nY;refine⟨_,by exact⟨rfl,rfl,rfl,trivial⟩,_,rfl,⟨vs++[(.slice a1 (S.fold A i).1.length k1,.slice a2 (S.fold A i).2.length k2,.slice a3 n3 k3)],by simp[v1],?_,λj f q hf hq=>?_⟩,⟨g7.os.trans gw.os,g7.out.trans gw.out,Nat.le_trans gw.size g7.size,λx hx _=>?_⟩,λx hx=>?_⟩
 ·rw[List.range_succ,List.map_append,List.length_append,List.map_append,List.flatten_append]
  simpa using nY
 ·rw[List.range_succ,List.map_append,List.getElem?_append]at hf
  rw[List.getElem?_append,v1]at hq;split at hf
  ·rename_i lt
   rw[if_pos lt]at hq;exact(v3 j f q hf hq).nf nf
  ·rename_i lt
   rw[if_neg lt]at hq;have:j=i:=by have:=(List.getElem?_eq_some_iff.1 hf).1;simp at this lt;omega
   subst this;simp at hf hq;subst hf hq;exact fo.nf nf
 ·exact(g7.block x (Nat.lt_of_lt_of_le hx gw.size) λe=>by have:=nv x e.symm;omega).trans (gw.block x hx nofun)
 ·rcases n7 x hx with q|q
  ·exact nv x q
  ·have:=gw.size;omega
end
theorem FI{w:World}{e:TypeId}{size n:Nat}{v:Value}{xs x:List Value}(h:w.ownsRow 0 e size v n xs){k:Nat}(hk:k<n)(hx:aJ xs (k*size) size=x):∃gb cap cur,v=.slice (some ⟨gb,0,none⟩) n cap/\w.heap[gb]? = some (.cells cur e)/\aJ cur.toList (k*size) size=x:=by
 obtain⟨gb,cap,cur,ev,aS,htk,_,_⟩:=jq h (by omega);refine⟨gb,cap,cur,ev,aS,?_⟩;have:(k+1)*size<=n*size:=Nat.mul_le_mul_right _ hk;rw[<-hx,<-htk];unfold aJ;rw[List.drop_take,List.take_take,Nat.min_eq_left (by rw[Nat.add_mul]at this;omega)]
theorem zA.el{w:World}{v:Value}{l:List St}(h:zA w v l){k:Nat}{s:St}(hs:l[k]? = some s):∃gb cap cur x,v=.slice (some ⟨gb,0,none⟩) l.length cap/\w.heap[gb]? = some (.cells cur 31)/\aJ cur.toList (k*7) 7=lD s x/\ShAt w x s:=by
 obtain⟨vs,v1,v2,v3⟩:=h;have hk:k<l.length:=(List.getElem?_eq_some_iff.1 hs).1;obtain⟨x,hx⟩:∃x,vs[k]? = some x:=⟨vs[k]'(by omega),by simp[v1,hk]⟩;obtain⟨gb,cap,cur,e1,e2,e3⟩:=FI v2 hk (QP (F:=lD) (λ_ _=>rfl) hs hx);exact⟨gb,cap,cur,x,e1,e2,e3,v3 k s x hs hx⟩
theorem pJ.el{w:World}{v:Value}{l:List (List MC×List St)}(h:pJ w v l){k:Nat}{f:List MC×List St}(hs:l[k]? = some f):∃gb cap cur p,v=.slice (some ⟨gb,0,none⟩) l.length cap/\w.heap[gb]? = some (.cells cur 94)/\aJ cur.toList (k*3) 3=BD p/\xz w p f:=by
 obtain⟨vs,v1,v2,v3⟩:=h;have hk:k<l.length:=(List.getElem?_eq_some_iff.1 hs).1;obtain⟨x,hx⟩:∃x,vs[k]? = some x:=⟨vs[k]'(by omega),by simp[v1,hk]⟩;obtain⟨gb,cap,cur,e1,e2,e3⟩:=FI v2 hk (show _=BD x by rw[<-List.flatMap_def];exact jB (f:=BD) (λ_=>rfl) vs k x hx);exact⟨gb,cap,cur,x,e1,e2,e3,v3 k f x hs hx⟩
section
variable{w:World}{s:St}{v:V5}
theorem acJ(h:ShAt w v s)(g:Nat):ag Tryz.prog 33 #[.agg (lD s v).toArray,.int .i64 g] w (λr w'=>r=.int .u32 (s.I.getD g 0)/\GB none w w'):=by
 obtain⟨T,M,D,O,I⟩:=v;obtain⟨ia,ic,e,ih,il,id⟩:=fM.I h;obtain rfl:I=_:=e;obtain⟨k,hk⟩:∃k:Int,k=g:=⟨_,rfl⟩;rw[<-hk];refine aj ah mixed Tryz.func33 rfl rfl ?_;refine λw1 b1 m1 g1 l1=>?_
 refine au (λc=>?_) (λc=>absurd (of_decide_eq_true (b00 c)) (by omega));refine⟨_,_,m1,_,rfl,au (λc=>?_) (λc=>?_)⟩
 ·have:=of_decide_eq_true c
  exact⟨by rw[List.getD_eq_getElem?_getD,List.getElem?_eq_none (by omega)];rfl,g1⟩
 ·have d:g<s.I.length:=by have:=of_decide_eq_false c;omega
  rcases id with⟨_,h0⟩|⟨B,off,cs,rfl,hB,hcut⟩
  ·omega
  obtain⟨x,hx⟩:∃x,s.I[g]? = some x:=⟨s.I[g],by simp[d]⟩;have hel:cs.toList[off+k.toNat*1]? = some (.int .u32 x):=by
   have:=congrArg (λl=>l[g]?) hcut;unfold aJ at this;simp only[List.getElem?_take,List.getElem?_drop,List.getElem?_map,hx]at this;rw[if_pos (by omega)]at this;rw[hk,Int.toNat_natCast,Nat.mul_one];exact this
  refine⟨_,_,m1,_,rfl,⟨by omega,by omega⟩,_,_,g1.get hB nofun,_,hel,?_⟩;exact⟨by rw[List.getD_eq_getElem?_getD,hx];rfl,g1⟩
theorem Vn{p:Value×Value×Value}{f:List MC×List St}(h:xz w p f)(hb:f.2.length<=1000)(hs:f.2[f.2.length - 1]? = some s):ag Tryz.prog 34 #[.agg (BD p).toArray] w (λr w'=>(∃v,r=.agg (lD s v).toArray/\ShAt w' v s)/\GB none w w'):=by
 have hl:f.2.length - 1<f.2.length:=(List.getElem?_eq_some_iff.1 hs).1;obtain⟨a1,c1,a2,c2,a3,n3,c3,rfl⟩:=h.sl;obtain⟨gb,cap,cur,⟨T,M,D,O,I⟩,e1,e2,e3,e4⟩:=h.st.el hs;obtain⟨ta,tn,tc,ma,mn,mc,da,dn,dc,oa,on,oc,ia,il,ic,e5⟩:=fM.sl e4;obtain⟨rfl,rfl,rfl,rfl,rfl⟩:T=_/\M=_/\D=_/\O=_/\I=_:=e5;cases e1
 refine aj ah mixed Tryz.func34 rfl rfl ?_;refine λw1 b1 m1 g1 l1 w2 b2 m2 g2 l2=>?_
 have G:=g1.trans g2;refine⟨_,_,g2.get m1 nofun,_,rfl,_,_,g2.get m1 nofun,_,rfl,⟨by omega,by omega⟩,⟨by omega,by omega⟩,_,_,G.get e2 nofun,lD s ⟨.slice ta tn tc,.slice ma mn mc,.slice da dn dc,.slice oa on oc,.slice ia il ic⟩,?_,rfl,?_⟩
 ·show aJ cur.toList (0+((f.2.length:Int) - 1).toNat*7) 7=_
  rw[Nat.zero_add,show((f.2.length:Int) - 1).toNat=f.2.length - 1 by omega];exact e3
 refine⟨_,_,_,m2,rfl,rfl,λw3 m3 g3=>?_⟩;have G3:GB none w w3:=g1.trans (g2.new g3 l2);refine⟨_,_,m3,_,rfl,rfl,?_⟩;exact⟨⟨_,rfl,fM.kz e4 G3.kz⟩,G3⟩
theorem Yv(h:ShAt w v s)(g:Nat):ag Tryz.prog 37 #[.agg (lD s v).toArray,.int .i64 g] w (λr w'=>(∃q,r=.agg #[.int .u32 (bJ s.O g).1,q]/\qg w' q (bJ s.O g).2)/\GB none w w'):=by
 obtain⟨T,M,D,O,I⟩:=v;obtain⟨qs,q1,⟨ia,ic,e,ih,il,id⟩,q3⟩:=fM.O h;obtain rfl:O=_:=e;obtain⟨k,hk⟩:∃k:Int,k=g:=⟨_,rfl⟩;rw[<-hk];refine aj ah mixed Tryz.func37 rfl rfl ?_;refine λw1 b1 m1 g1 l1 w2 b2 m2 g2 l2=>?_
 have G:=g1.trans g2;have m1:=g2.get m1 nofun;refine au (λc=>?_) (λc=>absurd (of_decide_eq_true (b00 c)) (by omega));refine⟨_,_,m1,_,rfl,au (λc=>?_) (λc=>?_)⟩
 ·have:=of_decide_eq_true c
  refine⟨_,_,_,m2,rfl,rfl,λw3 m3 g3=>?_⟩;have G3:GB none w w3:=g1.trans (g2.new g3 l2);refine⟨_,_,m3,_,rfl,rfl,?_⟩;have e:bJ s.O k=(0,[]):=by unfold bJ;rw[List.getElem?_eq_none (by omega)];rfl
  rw[e];exact⟨⟨_,rfl,[],rfl,Fz.nil _ _ _,λ_ _ _ h=>by cases h⟩,G3⟩
 ·have d:g<s.O.length:=by have:=of_decide_eq_false c;omega
  rcases id with⟨_,h0⟩|⟨B,off,cs,rfl,hB,hcut⟩
  ·omega
  obtain⟨o,ho⟩:∃o,s.O[g]? = some o:=⟨s.O[g],by simp[d]⟩;obtain⟨x,hx⟩:∃x,qs[g]? = some x:=⟨qs[g]'(by omega),by simp[q1,d]⟩;have e:bJ s.O k=o:=by unfold bJ;rw[hk,Int.toNat_natCast,ho];rfl
  have hq:=q3 g o x ho hx;obtain⟨qa,qn,qc,rfl⟩:∃a n c,x=.slice a n c:=by obtain⟨_,_,⟨a,c,e,_⟩,_⟩:=hq;exact⟨_,_,_,e⟩
  have hel:aJ cs.toList (off+k.toNat*2) 2=[.int .u32 o.1,.slice qa qn qc]:=by rw[hk,Int.toNat_natCast];exact(Fz.elem hcut d).trans (WG ho hx)
  refine⟨_,_,m1,_,rfl,⟨by omega,by omega⟩,_,_,G.get hB nofun,_,hel,rfl,?_⟩;refine⟨_,_,_,m2,rfl,rfl,λw3 m3 g3=>?_⟩;have G3:GB none w w3:=g1.trans (g2.new g3 l2);refine⟨_,_,m3,_,rfl,rfl,?_⟩;rw[e];exact⟨⟨_,rfl,hq.kz G3.kz⟩,G3⟩
end
section
variable{Λ:bU}{w:World}{bs:Nat}{S:Sit}
theorem SG{l:List Ask}{k:Nat}{p:Ask}(h:l[k]? = some p):aJ (l.map Ask.cells).flatten (k*9) 9=p.cells:=by
 rw[<-List.flatMap_def];exact jB (f:=Ask.cells) (λ_=>rfl) l k p h
theorem afd{l:List Value}{d:Nat}{a:Ask}(h:aJ l d 9=a.cells):aJ l d 7=a.q.cells/\l[d+7]? = some (.int .u8 a.g):=by
 have h0:=congrArg (λl=>l.take 7) h;have h1:=congrArg (λl=>l[7]?) h;unfold aJ at h0 h1 |-;simp only[List.take_take,List.getElem?_take,List.getElem?_drop]at h0 h1;exact⟨by simpa[Ask.cells,bQ.cells]using h0,by simpa[Ask.cells,bQ.cells]using h1⟩
theorem Vo(h:cZ Λ bs S w)(hl:S.asks.length<=1000000){q:bQ}{g:Nat}(hg:g<=4)(ha:∃a∈S.asks,a.q=q/\a.g=g):ag Tryz.prog 31 #[Ptt bs,.agg q.cells.toArray,.int .i64 g] w (λv w'=>v=.bool true/\GB none w w'):=by
 obtain⟨bc,a,gv,sv0,B,ad,hS⟩:=h;obtain⟨x,hx,rfl,rfl⟩:=ha;obtain⟨k0,hk0⟩:=List.mem_iff_getElem?.1 hx;have hlt:=(List.getElem?_eq_some_iff.1 hk0).1;obtain⟨gb,cap,cur,ea,hB,_⟩:=FI hS.si.ak hlt (SG hk0);have hm:=hS.si.mem;unfold fJ at hm;rw[ea]at hm;refine aj ah mixed Tryz.func31 rfl rfl ?_;refine λw1 b1 m1 g1 l1=>?_
 have hm:=g1.get hm nofun;have hB:=g1.get hB nofun;refine⟨λm s wk=>∃i:Nat,m=S.asks.length - i/\i<=k0/\s=[(0,Ptt bs),(2,.int .i64 x.g),(4,Ptt b1),(7,.int .i64 i)]/\wk=w1,⟨_,_,⟨0,rfl,Nat.zero_le _,rfl,rfl⟩,rfl,rfl,rfl,rfl,trivial⟩,?_⟩;rintro m s w1 ⟨i,rfl,hi,rfl,rfl⟩;refine⟨_,_,hm,_,rfl,au (λc=>?_) (λc=>?_)⟩
 ·obtain⟨y,hy⟩:∃y,S.asks[i]? = some y:=⟨S.asks[i]'(by omega),by simp[show i<S.asks.length by omega]⟩
  have hel:aJ cur.toList (i*9) 9=y.cells:=by
   obtain⟨gb',cap',cur',ea',hB',e'⟩:=FI hS.si.ak (k:=i) (by omega) (SG hy);rw[ea]at ea';cases ea';have:=g1.get hB' nofun;rw[hB]at this;cases this;exact e'
  obtain⟨e1,e2⟩:=afd hel;refine⟨by kernel_rfl,_,_,hm,_,rfl,⟨by omega,by omega⟩,_,_,hB,y.q.cells,by show aJ cur.toList (0+(i:Int).toNat*9) 7=_;rw[Nat.zero_add,Int.toNat_natCast];exact e1,rfl,_,_,m1,x.q.cells,rfl,rfl,au (λd=>?_) (λd=>?_)⟩
  ·refine⟨_,_,hm,_,rfl,⟨by omega,by omega⟩,_,_,hB,_,by show cur.toList[0+(i:Int).toNat*9+7]? = _;rw[Nat.zero_add,Int.toNat_natCast];exact e2,?_⟩
   have nx:i≠k0->i+1<=k0:=λe=>by omega
   by_cases hy8:y.g<=9223372036854775807
   ·refine Or.inl ⟨by omega,au (λd'=>⟨rfl,g1⟩) (λd'=>?_)⟩
    refine⟨⟨by omega,by omega⟩,_,_,⟨i+1,rfl,nx λe=>?_,rfl,rfl⟩,⟨rfl,rfl,rfl,rfl,trivial⟩,by omega⟩;subst e;rw[hk0]at hy;cases hy;simp at d'
   ·refine Or.inr (au (λd'=>⟨rfl,g1⟩) (λd'=>?_))
    refine⟨⟨by omega,by omega⟩,_,_,⟨i+1,rfl,nx λe=>?_,rfl,rfl⟩,⟨rfl,rfl,rfl,rfl,trivial⟩,by omega⟩;subst e;rw[hk0]at hy;cases hy;omega
  ·refine⟨⟨by omega,by omega⟩,_,_,⟨i+1,rfl,?_,rfl,rfl⟩,⟨rfl,rfl,rfl,rfl,trivial⟩,by omega⟩
   rcases Nat.lt_or_eq_of_le hi with q|rfl
   ·exact q
   ·rw[hk0]at hy;cases hy
    simp at d
 ·have:=of_decide_eq_false c;omega
end
section
variable{w:World}
theorem qg.el{q:Value}{l:List Rg}(h:qg w q l){k:Nat}{r:Rg}(hr:l[k]? = some r):∃(B off cap:Nat) (cs:Array Value) (p:Value×Value),q=.slice (some ⟨B,off,none⟩) l.length cap/\w.heap[B]? = some (.cells cs 52)/\aJ cs.toList (off+k*7) 7=dP r p.1 p.2/\aL w r p.1 p.2:=by
 obtain⟨vs,v1,⟨a,c,e,_,_,h3⟩,v3⟩:=h;have hk:k<l.length:=(List.getElem?_eq_some_iff.1 hr).1;obtain⟨p,hp⟩:∃p,vs[k]? = some p:=⟨vs[k]'(by omega),by simp[v1,hk]⟩;rcases h3 with⟨_,h0⟩|⟨B,off,cs,rfl,hB,hcut⟩
 ·omega
 exact⟨B,off,c,cs,p,e,hB,(Fz.elem hcut hk).trans (R8 hr hp),v3 k r p hr hp⟩
theorem Yw{v:Value}{fs:List (List MC×List St)}(h:pJ w v fs)(hn:fs.length<=4){r:Rg}{rv dv:Value}(hr:aL w r rv dv){g d:Nat}(es:r.src=g)(ed:r.dst=d)(hd:d<fs.length){f:List MC×List St}(hf:fs[g]? = some f)(h61:f.2.length<=1000)(hb:∀s∈f.2,StB s){j0:Nat}{s0:St}(hj:f.2[j0]? = some s0){k0:Nat}(hk:(bJ s0.O d).2[k0]? = some r):ag Tryz.prog 32 #[v,.agg (dP r rv dv).toArray] w (λx w'=>x=.bool true/\GB none w w'):=by
 have hg:g<fs.length:=(List.getElem?_eq_some_iff.1 hf).1;have hj0:=(List.getElem?_eq_some_iff.1 hj).1;obtain⟨gf,cf,KM,p,rfl,hmf,ef,fo⟩:=h.el hf;obtain⟨⟨ra,rc,rfl,r1,r2,r3⟩,⟨da,dc,rfl,d1,d2,d3⟩⟩:=hr;have hr:aL w r (.slice ra r.rows.length rc) (.slice da r.aW.length dc):=⟨⟨ra,rc,rfl,r1,r2,r3⟩,⟨da,dc,rfl,d1,d2,d3⟩⟩;obtain⟨a1,c1,a2,c2,a3,n3,c3,rfl⟩:=fo.sl;have ef1:KM.toList[g*3+1]? = some (.slice a2 f.2.length c2):=by
  have h1:=congrArg (λl=>l[1]?) ef;unfold aJ at h1;simp only[List.getElem?_take,List.getElem?_drop]at h1;simpa[BD]using h1
 refine tL ah Tryz.func32 rfl rfl ?_;refine CS.piece (Q:=λq w'=>∃b3,q=[(0,.slice (some ⟨gf,0,none⟩) fs.length cf),(3,Ptt b3)]/\w'.heap[b3]? = some (.cells (dP r (.slice ra r.rows.length rc) (.slice da r.aW.length dc)).toArray 52)/\GB none w w') (CS.of ah mixed ?_) ?_
 ·exact λw1 b1 m1 g1 l1=>⟨_,by exact⟨rfl,rfl,trivial⟩,b1,rfl,m1,g1⟩
 rintro _ w1 ⟨b3,rfl,m1,g1⟩;refine CS.piece (Q:=λq w'=>q=[(0,.slice (some ⟨gf,0,none⟩) fs.length cf),(3,Ptt b3)]/\w'=w1) (CS.of ah mixed ?_) ?_
 ·refine⟨_,_,m1,_,rfl,.inl ⟨by omega,?_⟩⟩
  refine au (λc=>?_) (λc=>?_)
  ·refine⟨_,_,m1,_,rfl,Or.inl ⟨by omega,?_⟩⟩
   refine au (λc'=>?_) (λc'=>?_)
   ·have:=of_decide_eq_true c';omega
   ·exact⟨_,by exact⟨rfl,rfl,trivial⟩,rfl,rfl⟩
  ·have:=of_decide_eq_true (b00 c);omega
 rintro _ w1 ⟨rfl,rfl⟩;refine CS.piece (Q:=λq w'=>q=[(3,Ptt b3),(5,.slice a2 f.2.length c2)]/\w'=w1) (CS.of ah mixed ?_) ?_
 ·refine⟨_,_,m1,_,rfl,⟨by omega,by omega⟩,_,_,g1.get hmf nofun,.slice a2 f.2.length c2,by show KM.toList[0+r.src.toNat*3+1]? = _;rw[Nat.zero_add,es,Int.toNat_natCast];exact ef1,?_⟩
  exact⟨_,by exact⟨rfl,rfl,trivial⟩,rfl,rfl⟩
 rintro _ w1 ⟨rfl,rfl⟩;refine CS.cut (Qn:=λ_ _=>False) (Qx:=λ_ _ _=>False) (Qr:=λq w'=>q=[(4,.bool true)]/\GB none w1 w') ?_ (λ_ _ h=>h.elim) (λ_ _ _ _ h=>h.elim) ?_;rotate_left
 ·rintro _ s' w' ⟨rfl,g'⟩ hs
  exact rT hs ⟨rfl,g1.trans g'⟩
 refine CS.piece (Q:=λq w'=>q=[(3,Ptt b3),(5,.slice a2 f.2.length c2),(6,.int .i64 0)]/\w'=w1) (CS.of ah mixed ⟨_,by exact⟨rfl,rfl,rfl,trivial⟩,rfl,rfl⟩) ?_;rintro _ w1 ⟨rfl,rfl⟩;refine CS.block ?_;refine CS.loop (λm s wk=>∃i:Nat,m=f.2.length - i/\i<=j0/\s=[(3,Ptt b3),(5,.slice a2 f.2.length c2),(6,.int .i64 i)]/\GB none w1 wk) ⟨_,_,⟨0,rfl,Nat.zero_le _,rfl,GB.refl _ _⟩,rfl,rfl,rfl,trivial⟩ ?_;rintro m s wk ⟨i,rfl,hi,rfl,gk⟩;refine CS.piece (Q:=λq w'=>q=[(3,Ptt b3),(5,.slice a2 f.2.length c2),(6,.int .i64 i)]/\w'=wk) (CS.of ah mixed ?_) ?_
 ·refine au (λc=>?_) (λc=>?_)
  ·exact⟨_,by exact⟨rfl,rfl,rfl,trivial⟩,rfl,rfl⟩
  ·have:=of_decide_eq_false c;omega
 rintro _ wk ⟨rfl,rfl⟩;have G:=g1.trans gk;refine CS.cut (Qn:=λq w'=>i≠j0/\q=[(3,Ptt b3),(5,.slice a2 f.2.length c2),(6,.int .i64 i)]/\GB none w1 w') (Qx:=λ_ _ _=>False) (Qr:=λq w'=>q=[(4,.bool true)]/\GB none w1 w') ?_ ?_ (λ_ _ _ _ h=>h.elim) ?_;rotate_left
 ·rintro _ w' ⟨ne,rfl,g'⟩
  refine CS.of ah mixed ?_;exact⟨⟨by omega,by omega⟩,_,_,⟨i+1,rfl,by omega,rfl,g'⟩,⟨rfl,rfl,rfl,trivial⟩,by omega⟩
 ·rintro _ s' w' ⟨rfl,g'⟩ hs
  exact⟨_,hs,rfl,g'⟩
 obtain⟨s,hs⟩:∃s,f.2[i]? = some s:=⟨f.2[i]'(by omega),by simp[show i<f.2.length by omega]⟩;obtain⟨gs,cs2,afe,⟨T,M,D,O,I⟩,e1,e2,e3,e4⟩:=fo.st.el hs;obtain⟨ta,tn,tc,ma,mn,mc,qi,dn,qj,oa,on,oc,ia,il,ic,e5⟩:=fM.sl e4;obtain⟨rfl,rfl,rfl,rfl,rfl⟩:T=_/\M=_/\D=_/\O=_/\I=_:=e5;cases e1
 have hsb:=hb s (List.mem_of_getElem? hs);have hlen:(bJ s.O d).2.length<=1000000/\∀x∈(bJ s.O d).2,x.rows.length<=1000000/\x.aW.length<=1000000:=by
  unfold bJ;rw[Int.toNat_natCast];cases ho:s.O[d]? with
  |none=>exact⟨Nat.zero_le _,λx hx=>by cases hx⟩
  |some o=>exact hsb.q o (List.mem_of_getElem? ho)
 have hki:i=j0->(bJ s.O d).2[k0]? = some r:=λe=>by subst e;rw[hj]at hs;cases hs;exact hk
 refine CS.block ?_;refine CS.piece (Q:=λq w'=>∃qa qc,q=[(3,Ptt b3),(5,.slice (some ⟨gs,0,none⟩) f.2.length c2),(6,.int .i64 i),(7,.slice qa (bJ s.O d).2.length qc)]/\qg w' (.slice qa (bJ s.O d).2.length qc) (bJ s.O d).2/\GB none wk w') (CS.of ah mixed ?_) ?_
 ·have hla:=Yv (fM.kz e4 G.kz) d
  rw[<-ed]at hla;refine⟨by kernel_rfl,⟨by omega,by omega⟩,_,_,G.get e2 nofun,lD s ⟨.slice ta tn tc,.slice ma mn mc,.slice qi dn qj,.slice oa on oc,.slice ia il ic⟩,by show aJ afe.toList (0+(i:Int).toNat*7) 7=_;rw[Nat.zero_add,Int.toNat_natCast];exact e3,rfl,_,_,gk.get m1 nofun,_,rfl,Or.inl ⟨by omega,?_⟩⟩;refine⟨_,hla,?_⟩;rintro _ w2 ⟨⟨q,rfl,hq⟩,g2⟩;rw[ed]at hq;obtain⟨qa,qc,rfl⟩:∃a c,q=.slice a (bJ s.O d).2.length c:=by obtain⟨_,_,⟨a,c,e,_⟩,_⟩:=hq;exact⟨_,_,e⟩
  exact⟨_,by exact⟨rfl,rfl,rfl,rfl,trivial⟩,_,_,rfl,hq,g2⟩
 rintro _ w2 ⟨qa,qc,rfl,hq,g2⟩;refine CS.piece (Q:=λq w'=>q=[(3,Ptt b3),(5,.slice (some ⟨gs,0,none⟩) f.2.length c2),(6,.int .i64 i),(7,.slice qa (bJ s.O d).2.length qc),(8,.int .i64 0)]/\w'=w2) (CS.of ah mixed ⟨_,by exact⟨rfl,rfl,rfl,rfl,rfl,trivial⟩,rfl,rfl⟩) ?_;rintro _ w2 ⟨rfl,rfl⟩;refine CS.block ?_;refine CS.loop (λm s' w3=>∃j:Nat,m=(bJ s.O d).2.length - j/\j<=(bJ s.O d).2.length/\(i=j0->j<=k0)/\s'=[(3,Ptt b3),(5,.slice (some ⟨gs,0,none⟩) f.2.length c2),(6,.int .i64 i),(7,.slice qa (bJ s.O d).2.length qc),(8,.int .i64 j)]/\GB none w2 w3) ⟨_,_,⟨0,rfl,Nat.zero_le _,λ_=>Nat.zero_le _,rfl,GB.refl _ _⟩,rfl,rfl,rfl,rfl,rfl,trivial⟩ ?_;rintro m s' w3 ⟨j,rfl,hjl,hjk,rfl,g3⟩;refine CS.cut (Qn:=λq w'=>j<(bJ s.O d).2.length/\q=[(3,Ptt b3),(5,.slice (some ⟨gs,0,none⟩) f.2.length c2),(6,.int .i64 i),(7,.slice qa (bJ s.O d).2.length qc),(8,.int .i64 j)]/\w'=w3) (Qx:=λn q w'=>n=2/\i≠j0/\q=[(3,Ptt b3),(5,.slice (some ⟨gs,0,none⟩) f.2.length c2),(6,.int .i64 i)]/\w'=w3) (Qr:=λ_ _=>False) (CS.of ah mixed ?_) ?_ ?_ (λ_ _ _ h=>h.elim)
 ·refine au (λc=>?_) (λc=>?_)
  ·exact⟨_,by exact⟨rfl,rfl,rfl,rfl,rfl,trivial⟩,by have:=of_decide_eq_true c;omega,rfl,rfl⟩
  ·have:=of_decide_eq_false c
   exact⟨_,by exact⟨rfl,rfl,rfl,trivial⟩,rfl,λe=>by have:=hjk e;have:=(List.getElem?_eq_some_iff.1 (hki e)).1;omega,rfl,rfl⟩
 rotate_left
 ·rintro n _ s'' w' ⟨rfl,ne,rfl,rfl⟩ hs'
  exact⟨_,hs',ne,rfl,gk.trans (g2.trans g3)⟩
 rintro _ w3 ⟨d1,rfl,rfl⟩;refine CS.cut (Qn:=λq w'=>(i=j0->j+1<=k0)/\q=[(3,Ptt b3),(5,.slice (some ⟨gs,0,none⟩) f.2.length c2),(6,.int .i64 i),(7,.slice qa (bJ s.O d).2.length qc),(8,.int .i64 j)]/\GB none w2 w') (Qx:=λ_ _ _=>False) (Qr:=λq w'=>q=[(4,.bool true)]/\GB none w1 w') ?_ ?_ (λ_ _ _ _ h=>h.elim) ?_;rotate_left
 ·rintro _ w' ⟨hn',rfl,g'⟩
  refine CS.of ah mixed ?_;exact⟨⟨by omega,by omega⟩,_,_,⟨j+1,rfl,by omega,hn',rfl,g'⟩,⟨rfl,rfl,rfl,rfl,rfl,trivial⟩,by omega⟩
 ·rintro _ s'' w' ⟨rfl,g'⟩ hs'
  exact⟨_,hs',rfl,g'⟩
 refine CS.block (CS.of ah mixed ?_);obtain⟨x,hx⟩:∃x,(bJ s.O d).2[j]? = some x:=⟨(bJ s.O d).2[j],by simp[d1]⟩;obtain⟨QB,qo,ahe,qcs,p,eq,hQB,hqe,hqr⟩:=(hq.kz g3.kz).el hx;cases eq
 obtain⟨xa,ya⟩:=p;obtain⟨⟨xra,xrc,e6,x1,x2,x3⟩,⟨xda,xdc,e7,y1,y2,y3⟩⟩:=hqr;obtain rfl:xa=_:=e6;obtain rfl:ya=_:=e7;have hqr:aL w3 x (.slice xra x.rows.length xrc) (.slice xda x.aW.length xdc):=⟨⟨xra,xrc,rfl,x1,x2,x3⟩,⟨xda,xdc,rfl,y1,y2,y3⟩⟩;have Zd:=Nt w3 hqr (hr.kz (G.trans (g2.trans g3)).kz) (hlen.2 x (List.mem_of_getElem? hx));refine⟨by kernel_rfl,⟨by omega,by omega⟩,_,_,hQB,dP x (.slice xra x.rows.length xrc) (.slice xda x.aW.length xdc),by show aJ qcs.toList (qo+(j:Int).toNat*7) 7=_;rw[Int.toNat_natCast];exact hqe,rfl,_,_,(gk.trans (g2.trans g3)).get m1 nofun,_,rfl,rfl,_,Zd,?_⟩;rintro _ w4 ⟨rfl,g4⟩;refine au (λc=>?_) (λc=>?_)
 ·exact⟨_,by exact⟨rfl,trivial⟩,rfl,gk.trans (g2.trans (g3.trans g4))⟩
 ·refine⟨_,by exact⟨rfl,rfl,rfl,rfl,rfl,trivial⟩,λe=>?_,rfl,g3.trans g4⟩
  have:=hjk e;rcases Nat.lt_or_eq_of_le this with q|q
  ·exact q
  ·have:=hki e
   rw[<-q,hx]at this;cases this
   rw[Ij]at c;cases c
end
def PI(A:aR):Prop:=∀{k:Nat} (s:St) (c:MC),k<=60->A.good k s->A.gc c->∀i:Nat,s.I.getD i 0<=(A.ap s c).1.I.getD i 0
structure Wh(A:aR)(S:Sit)(g:Nat)(c:MC):Prop where
 gc:A.gc c
 fr:c.kind=0\/(c.kind=1/\∃a∈S.asks,a.q=c.q/\a.g=g)\/(c.kind=2/\∃g0:Nat,g0<S.C.n/\c.r.src=g0/\c.r.dst=g/\∃(j:Nat) (s:St),(S.fold A g0).2[j]? = some s/\∃k0:Nat,(bJ s.O g).2[k0]? = some c.r)\/(c.kind=3/\∃g0:Nat,g0<S.C.n/\c.peer=g0/\c.seq<=(fF A (A.bg g0 S.C.n) (S.bf.getD g0 [])).I.getD g 0)
section
variable{A:aR}{S:Sit}
theorem BF(A:aR)(s:St)(l:List MC){k j:Nat}(h:j<=k):(dI A s l k)[j]? = some (fF A s (l.take j)):=by
 unfold dI;rw[List.getElem?_map,List.getElem?_range (by omega)];rfl
theorem DL.len{sz:Nat}{Γ:Gh}{U:MC->Prop}(o:Γ.Ok sz U){l:List MC}(h:DL sz Γ l):l.length<=60/\∀c∈l,U c:=by
 constructor
 ·rcases Nat.lt_or_ge 60 l.length with q|q
  ·obtain⟨b,p,_⟩:=h 60 l[60] (by simp[q])
   have:=(o.wh p).2;omega
  ·exact q
 ·intro c hc
  obtain⟨k,hk⟩:=List.mem_iff_getElem?.1 hc;obtain⟨b,p,_⟩:=h k c hk;exact(o.wh p).1
theorem DL.pre{sz:Nat}{Γ:Gh}{U:MC->Prop}(o:Γ.Ok sz U){l m:List MC}(h:DL sz Γ l)(k:DL sz Γ m)(hl:l.length<=m.length):l=m.take l.length:=by
 refine List.ext_getElem? λi=>?_
 rw[List.getElem?_take];split
 ·rename_i lt
  obtain⟨x,hx⟩:∃x,l[i]? = some x:=⟨l[i],by simp[lt]⟩;obtain⟨y,hy⟩:∃y,m[i]? = some y:=⟨m[i]'(by omega),by simp[show i<m.length by omega]⟩;rw[hx,hy,o.one (h i x hx) (k i y hy)]
 ·rw[List.getElem?_eq_none (by omega)]
theorem WM(HA:bG A)(HU:PI A){s:St}(h0:A.good 0 s){l:List MC}(hl:l.length<=60)(hc:∀c∈l,A.gc c)(i:Nat):∀d j,j+d<=l.length->(fF A s (l.take j)).I.getD i 0<=(fF A s (l.take (j+d))).I.getD i 0
 |0,_,_=>Int.le_refl _
 |d+1,j,hj=>by
  refine Int.le_trans (WM HA HU h0 hl hc i d j (by omega)) ?_;obtain⟨c,e⟩:∃c,l[j+d]? = some c:=⟨l[j+d],by simp[show j+d<l.length by omega]⟩;rw[<-Nat.add_assoc,zB e];exact HU _ _ (by omega) (uJ HA h0 hl hc (j+d) (by omega)) (hc c (List.mem_of_getElem? e)) i
theorem bW.bf(h:bW A S){g:Nat}(hg:g<S.C.n):(S.bf.getD g []).length<=60/\∀c∈S.bf.getD g [],A.gc c:=by
 obtain⟨Γ,H,ci,dl,_⟩:=h.gh;have:=(dl g hg).len (ci.ok g hg);exact⟨this.1,λc hc=>(this.2 c hc).1⟩
theorem bW.wh(HA:bG A)(HU:PI A)(h:bW A S)(hN:S.C.n=A.N)(hk:S.FE){g k:Nat}{c:MC}(hg:g<S.C.n)(hc:(S.bf.getD g [])[k]? = some c):Wh A S g c:=by
 have h4:=h.fine.cl.n;obtain⟨Γ,H,ci,dl,hh⟩:=h.gh;obtain⟨b,p,_⟩:=dl g hg k c hc;obtain⟨o1,o2⟩:=((ci.ok g hg).wh p).1;have pre:∀{g0:Nat},g0<S.C.n->∀{l:List MC},DL S.C.sz (Γ g0) l->l.length<=H g0->l=(S.bf.getD g0 []).take l.length/\l.length<=(S.bf.getD g0 []).length:=λ{g0} h0 l d q=>by
  have:l.length<=(S.bf.getD g0 []).length:=by
   rcases hh g0 h0 with x|⟨i,hi,x⟩
   ·omega
   ·have:=hk g0 i h0 hi;omega
  exact⟨DL.pre (ci.ok g0 h0) d (dl g0 h0) this,this⟩
 refine⟨o1,?_⟩;rcases o2 with e|e|⟨e,g0,h0,e1,e2,l,d,q,o,ho,hr⟩|⟨e,g0,h0,e1,l,d,q,hs⟩
 ·exact .inl e
 ·exact .inr (.inl e)
 ·obtain⟨p1,p2⟩:=pre h0 d q
  obtain⟨k0,hk0⟩:=List.mem_iff_getElem?.1 hr;refine .inr (.inr (.inl ⟨e,g0,h0,e1,e2,l.length,_,BF _ _ _ p2,k0,?_⟩));rw[<-p1];unfold bJ;rw[ho];exact hk0
 ·obtain⟨p1,p2⟩:=pre h0 d q
  refine .inr (.inr (.inr ⟨e,g0,h0,e1,?_⟩));have hb:=h.bf h0;have:=WM HA HU (HA.BP g0 S.C.n hN h0 h4) hb.1 hb.2 g ((S.bf.getD g0 []).length - l.length) l.length (by omega);rw[<-p1,show l.length+((S.bf.getD g0 []).length - l.length)=(S.bf.getD g0 []).length by omega,List.take_length]at this;rw[Int.toNat_natCast]at hs;omega
end
end
