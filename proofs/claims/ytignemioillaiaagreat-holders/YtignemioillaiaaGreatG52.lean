/- Lemmas. -/
import Derived.Test.YtignemioillaiaaGreatG51
namespace Go.Proofs.YtignemioillaiaaGreat
set_option maxHeartbeats 8000000
set_option maxRecDepth 100000
open List
section
open Go Go.Conc
def NF(w w':World):Prop:=∀(x:Nat) (c:Array Value) (t:TypeId),w.heap[x]? = some (.cells c t)->t≠94->w'.heap[x]? = some (.cells c t)
theorem NF.of{w w':World}(g:GB none w w'):NF w w':=λ_ _ _ h _=>g.get h nofun
theorem NF.trans{w w' w'':World}(h:NF w w')(k:NF w' w''):NF w w'':=λx c t a b=>k x c t (h x c t a b) b
theorem NF.kz{w w':World}(h:NF w w'):Kz w w':=λt ht b c hb=>h b c t hb λe=>by subst e;revert ht;decide
theorem NF.own{w w':World}(h:NF w w'){e:TypeId}{size n:Nat}{v:Value}{xs:List Value}(o:w.ownsRow 0 e size v n xs)(he:e≠94):w'.ownsRow 0 e size v n xs:=ay o λx hx=>by obtain⟨c,hc⟩:=ax o hx;rw[h x c e hc he,hc]
theorem jV.nf{w w':World}(h:NF w w'){v:Value}{l:List MC}(k:jV w v l):jV w' v l:=k.kz h.kz λx hx=>by obtain⟨c,hc⟩:=k.obj hx;rw[h x c _ hc (by decide),hc]
theorem zV.nf{w w':World}(h:NF w w'){v:Value}{l:List St}(k:zV w v l):zV w' v l:=by
 obtain⟨vs,k1,k2,k3⟩:=k;exact⟨vs,k1,h.own k2 (by decide),λi s x a b=>fG.kz (k3 i s x a b) h.kz⟩
structure wH(w:World)(p:Value×Value×Value)(f:List MC×List St):Prop where
 lg:jV w p.1 f.1
 st:zV w p.2.1 f.2
 rp:∃n xs,w.ownsRow 0 57 7 p.2.2 n xs
def BZ(p:Value×Value×Value):List Value:=[p.1,p.2.1,p.2.2]
def oJ(w:World)(v:Value)(fs:List (List MC×List St)):Prop:=∃vs:List (Value×Value×Value),vs.length=fs.length/\w.ownsRow 0 94 3 v fs.length (vs.map BZ).flatten/\∀(i:Nat) f p,fs[i]? = some f->vs[i]? = some p->wH w p f
theorem wH.nf{w w':World}(h:NF w w'){p:Value×Value×Value}{f:List MC×List St}(k:wH w p f):wH w' p f:=by
 obtain⟨n,xs,r⟩:=k.rp;exact⟨k.lg.nf h,k.st.nf h,n,xs,h.own r (by decide)⟩
theorem oJ.gb{w w':World}(g:GB none w w'){v:Value}{fs:List (List MC×List St)}(k:oJ w v fs):oJ w' v fs:=by
 obtain⟨vs,k1,k2,k3⟩:=k;exact⟨vs,k1,ay k2 λx hx=>by obtain⟨c,hc⟩:=ax k2 hx;exact g.block x (ae hc) nofun,λi f p a b=>(k3 i f p a b).nf (.of g)⟩
theorem wH.sl{w:World}{p:Value×Value×Value}{f:List MC×List St}(h:wH w p f):∃a1 c1 a2 c2 a3 n3 c3,p=(.slice a1 f.1.length c1,.slice a2 f.2.length c2,.slice a3 n3 c3):=by
 obtain⟨vs,_,h1,_⟩:=h.lg;obtain⟨us,_,h2,_⟩:=h.st;obtain⟨n,xs,h3⟩:=h.rp;obtain⟨a1,c1,e1⟩:=af h1;obtain⟨a2,c2,e2⟩:=af h2;obtain⟨a3,c3,e3⟩:=af h3;obtain⟨x,y,z⟩:=p;exact⟨a1,c1,a2,c2,a3,n,c3,by rw[show x=_ from e1,show y=_ from e2,show z=_ from e3]⟩
def Sit.fold(A:aO)(S:Sit)(g:Nat):List MC×List St:=(S.bG.getD g [],fB A (A.bg g S.C.n) (S.bG.getD g []) (S.bG.getD g []).length)
section
variable{A:aO}(HA:bH A){Λ:bU}{w:World}{bs:Nat}{S:Sit}
include HA
theorem Y3(h:df Λ bs S w)(hF:S.aJ A)(hN:S.C.n=A.N)(hb:∀g,g<S.C.n->(S.bG.getD g []).length<=60/\∀c∈S.bG.getD g [],A.gc c):ag Tryz.prog 30 #[Ptt bs] w (λv w'=>oJ w' v ((List.range S.C.n).map (S.fold A))/\GB none w w'):=by
 have jh:=hF.cl.n;obtain⟨bc,a,gv,sv0,B,ad,hS⟩:=h;refine wu fD Tryz.func30 rfl rfl ?_;refine CS.piece (Q:=λq w'=>q=[(0,Ptt bs)]/\w'=w) (CS.e ⟨_,by exact⟨rfl,trivial⟩,rfl,rfl⟩) ?_;rintro _ w ⟨rfl,rfl⟩;refine CS.piece (Q:=λq w'=>q=[(0,Ptt bs),(3,Ptz)]/\w'=w) (CS.e ⟨_,by exact⟨rfl,rfl,trivial⟩,rfl,rfl⟩) ?_;rintro _ w ⟨rfl,rfl⟩;refine CS.piece (Q:=λq w'=>∃v,q=[(3,v)]/\oJ w' v ((List.range S.C.n).map (S.fold A))/\GB none w w') ?_ ?_;rotate_left
 ·rintro _ w' ⟨v,rfl,h1,g1⟩
  obtain⟨va,vc,rfl⟩:∃a c,v=.slice a ((List.range S.C.n).map (S.fold A)).length c:=by obtain⟨_,_,o,_⟩:=h1;exact af o
  refine CS.e ?_;exact⟨h1,g1⟩
 refine CS.piece (Q:=λq w'=>q=[(0,Ptt bs),(3,Ptz),(4,.int .i64 0)]/\w'=w) (CS.e ⟨_,by exact⟨rfl,rfl,rfl,trivial⟩,rfl,rfl⟩) ?_;rintro _ w ⟨rfl,rfl⟩;refine CS.block ?_;refine CS.loop (λm s wk=>∃(i:Nat) (v:Value),m=S.C.n - i/\i<=S.C.n/\s=[(0,Ptt bs),(3,v),(4,.int .i64 i)]/\oJ wk v ((List.range i).map (S.fold A))/\GB none w wk/\∀x,v.ownBlock=some x->w.heap.size<=x) ⟨_,_,⟨0,_,rfl,Nat.zero_le _,rfl,⟨[],rfl,dZ _ _ _,λi f p h=>by cases h⟩,GB.refl _ _,nofun⟩,rfl,rfl,rfl,trivial⟩ ?_;rintro m s wk ⟨i,v,rfl,hi,rfl,hv,gk,nv⟩;have hm:=(hS.au gk).si.mem;refine CS.cut (Qn:=λq w'=>i<S.C.n/\q=[(0,Ptt bs),(3,v),(4,.int .i64 i)]/\w'=wk) (Qx:=λj q w'=>j=0/\i=S.C.n/\q=[(3,v)]/\w'=wk) (Qr:=λ_ _=>False) (CS.e ?_) ?_ ?_ (λ_ _ _ h _=>h.elim)
 ·refine⟨_,_,hm,_,rfl,aj (λc=>?_) (λc=>?_)⟩
  ·exact⟨_,by exact⟨rfl,rfl,rfl,trivial⟩,by have:=Ptq c;omega,rfl,rfl⟩
  ·exact⟨_,by exact⟨rfl,trivial⟩,rfl,by have:=Ptx c;omega,rfl,rfl⟩
 rotate_left
 ·rintro j q s w' ⟨rfl,rfl,rfl,rfl⟩ hs
  exact⟨_,hs,v,rfl,hv,gk⟩
 rintro _ wk ⟨c1,rfl,rfl⟩;refine CS.piece (Q:=λq w'=>∃v',q=[(0,Ptt bs),(3,v'),(4,.int .i64 i)]/\oJ w' v' ((List.range (i+1)).map (S.fold A))/\GB none w w'/\∀x,v'.ownBlock=some x->w.heap.size<=x) ?_ ?_;rotate_left
 ·rintro _ w' ⟨v',rfl,h1,h2,h3⟩
  obtain⟨va,vc,rfl⟩:∃a c,v'=.slice a ((List.range (i+1)).map (S.fold A)).length c:=by obtain⟨_,_,o,_⟩:=h1;exact af o
  refine CS.e ?_;exact⟨by omega,_,_,⟨i+1,_,rfl,by omega,rfl,h1,h2,h3⟩,⟨rfl,rfl,rfl,trivial⟩,by omega⟩
 refine CS.block ?_;refine CS.piece (Q:=λq w'=>∃b5 p,q=[(0,Ptt bs),(3,v),(4,.int .i64 i),(5,Ptt b5)]/\w'.heap[b5]? = some (.cells (BZ p).toArray 94)/\wH w' p (S.fold A i)/\GB none wk w') (CS.e ?_) ?_
 ·refine⟨_,VS HA ⟨_,_,_,_,_,_,hS.au gk⟩ hF hN c1 (hb i c1).1 (hb i c1).2,?_⟩
  rintro _ w1 ⟨lv,sv,rv,rfl,f1,f2,f3,g1⟩;have fo:wH w1 (lv,sv,rv) (S.fold A i):=⟨f1,f2,_,f3⟩;obtain⟨a1,k1,a2,k2,a3,n3,k3,e⟩:=fo.sl;cases e
  refine λw2 b5 m5 g2 l5=>⟨_,_,_,m5,rfl,rfl,λw3 m3 g3=>?_⟩
  have G:GB none w1 w3:=g2.new g3 l5;exact⟨_,by exact⟨rfl,rfl,rfl,rfl,trivial⟩,b5,(.slice a1 _ k1,.slice a2 _ k2,.slice a3 n3 k3),rfl,m3,fo.nf (.of G),g1.trans G⟩
 rintro _ w3 ⟨b5,p,rfl,m5,fo,g3⟩;have hv:=hv.gb g3;obtain⟨vs,v1,v2,v3⟩:=hv;obtain⟨va,vc,rfl⟩:=af v2;obtain⟨a1,k1,a2,k2,a3,n3,k3,rfl⟩:=fo.sl;refine CS.e ?_;refine⟨_,_,m5,BZ _,rfl,rfl,λw6 b6 m6 g6 l6=>?_⟩;have v2':=ay v2 λx hx=>by obtain⟨c,hc⟩:=ax v2 hx;exact g6.block x (ae hc) nofun
 have hlen:((List.range i).map (S.fold A)).length=i:=by simp
 refine⟨_,BZ _,v2',⟨_,_,m6,rfl,rfl,rfl⟩,by omega,λv' w7 oM g7 n7=>?_⟩;have nf:NF w3 w7:=NF.trans (.of g6) λx c t hx ht=>g7.get hx λe=>by obtain⟨c',hc⟩:=ax v2' e.symm;rw[hx]at hc;injection hc with hc;injection hc with _ hc;exact ht hc
 have gw:GB none w w6:=(gk.trans g3).trans g6;obtain⟨la,lc,rfl⟩:=af oM;replace oM:w7.ownsRow 0 94 3 _ _ _:=oM;refine⟨_,by exact⟨rfl,rfl,rfl,trivial⟩,_,rfl,⟨vs++[(.slice a1 (S.fold A i).1.length k1,.slice a2 (S.fold A i).2.length k2,.slice a3 n3 k3)],by simp[v1],?_,λj f q hf hq=>?_⟩,⟨g7.os.trans gw.os,g7.out.trans gw.out,Nat.le_trans gw.size g7.size,λx hx _=>?_⟩,λx hx=>?_⟩
 ·rw[range_succ,map_append,length_append,map_append,flatten_append]
  simpa using oM
 ·rw[range_succ,map_append,getElem?_append]at hf
  rw[getElem?_append,v1]at hq;split at hf
  ·rename_i lt
   rw[if_pos lt]at hq;exact(v3 j f q hf hq).nf nf
  ·rename_i lt
   rw[if_neg lt]at hq;have:j=i:=by have:=(List.getElem?_eq_some_iff.1 hf).1;simp at this lt;omega
   subst this;simp at hf hq;subst hf hq;exact fo.nf nf
 ·exact(g7.block x (Nat.lt_of_lt_of_le hx gw.size) λe=>by have:=nv x e.symm;omega).trans (gw.block x hx nofun)
 ·rcases n7 x hx with q|q
  ·exact nv x q
  ·have:=gw.size;omega
end
theorem TB{w:World}{e:TypeId}{size n:Nat}{v:Value}{xs x:List Value}(h:w.ownsRow 0 e size v n xs){k:Nat}(hk:k<n)(hx:aK xs (k*size) size=x):∃gb cap cur,v=.slice (Pty gb) n cap/\w.heap[gb]? = some (.cells cur e)/\aK cur.toList (k*size) size=x:=by
 obtain⟨gb,cap,cur,ev,aR,htk,_,_⟩:=jD h (by omega);refine⟨gb,cap,cur,ev,aR,?_⟩;have:(k+1)*size<=n*size:=Nat.mul_le_mul_right _ hk;rw[<-hx,<-htk];unfold aK;rw[drop_take,take_take,Nat.min_eq_left (by rw[Nat.add_mul]at this;omega)]
theorem zV.el{w:World}{v:Value}{l:List St}(h:zV w v l){k:Nat}{s:St}(hs:l[k]? = some s):∃gb cap cur x,v=.slice (Pty gb) l.length cap/\w.heap[gb]? = some (.cells cur 31)/\aK cur.toList (k*7) 7=kL s x/\ShAt w x s:=by
 obtain⟨vs,v1,v2,v3⟩:=h;have hk:k<l.length:=(List.getElem?_eq_some_iff.1 hs).1;obtain⟨x,hx⟩:∃x,vs[k]? = some x:=⟨vs[k]'(by omega),by simp[v1,hk]⟩;obtain⟨gb,cap,cur,e1,e2,e3⟩:=TB v2 hk (Rs (F:=kL) (λ_ _=>rfl) hs hx);exact⟨gb,cap,cur,x,e1,e2,e3,v3 k s x hs hx⟩
theorem oJ.el{w:World}{v:Value}{l:List (List MC×List St)}(h:oJ w v l){k:Nat}{f:List MC×List St}(hs:l[k]? = some f):∃gb cap cur p,v=.slice (Pty gb) l.length cap/\w.heap[gb]? = some (.cells cur 94)/\aK cur.toList (k*3) 3=BZ p/\wH w p f:=by
 obtain⟨vs,v1,v2,v3⟩:=h;have hk:k<l.length:=(List.getElem?_eq_some_iff.1 hs).1;obtain⟨x,hx⟩:∃x,vs[k]? = some x:=⟨vs[k]'(by omega),by simp[v1,hk]⟩;obtain⟨gb,cap,cur,e1,e2,e3⟩:=TB v2 hk (show _=BZ x by rw[<-flatMap_def];exact jZ (f:=BZ) (λ_=>rfl) vs k x hx);exact⟨gb,cap,cur,x,e1,e2,e3,v3 k f x hs hx⟩
section
variable{w:World}{s:St}{v:V5}
theorem adg(h:ShAt w v s)(g:Nat):ag Tryz.prog 33 #[.agg (kL s v).toArray,.int .i64 g] w (λr w'=>r=.int .u32 (s.I.getD g 0)/\GB none w w'):=by
 obtain⟨T,M,D,O,I⟩:=v;obtain⟨ia,ic,e,ih,il,id⟩:=fG.I h;obtain rfl:I=_:=e;obtain⟨k,hk⟩:∃k:Int,k=g:=⟨_,rfl⟩;rw[<-hk];refine ah Tryz.func33 rfl rfl ?_;refine λw1 b1 m1 g1 l1=>?_
 refine aj (λc=>?_) (λc=>absurd (Ptq (b00 c)) (by omega));refine⟨_,_,m1,_,rfl,aj (λc=>?_) (λc=>?_)⟩
 ·have:=Ptq c
  exact⟨by rw[getD_eq_getElem?_getD,getElem?_eq_none (by omega)];rfl,g1⟩
 ·have d:g<s.I.length:=by have:=Ptx c;omega
  rcases id with⟨_,h0⟩|⟨B,off,cs,rfl,hB,hcut⟩
  ·omega
  obtain⟨x,hx⟩:∃x,s.I[g]? = some x:=⟨s.I[g],by simp[d]⟩;have hel:cs.toList[off+k.toNat*1]? = some (.int .u32 x):=by
   have:=congrArg (λl=>l[g]?) hcut;unfold aK at this;simp only[getElem?_take,getElem?_drop,getElem?_map,hx]at this;rw[if_pos (by omega)]at this;rw[hk,Int.toNat_natCast,Nat.mul_one];exact this
  refine⟨_,_,m1,_,rfl,by omega,_,_,g1.get hB nofun,_,hel,?_⟩;exact⟨by rw[getD_eq_getElem?_getD,hx];rfl,g1⟩
theorem LJ{p:Value×Value×Value}{f:List MC×List St}(h:wH w p f)(hb:f.2.length<=1000)(hs:f.2[f.2.length - 1]? = some s):ag Tryz.prog 34 #[.agg (BZ p).toArray] w (λr w'=>(∃v,r=.agg (kL s v).toArray/\ShAt w' v s)/\GB none w w'):=by
 have hl:f.2.length - 1<f.2.length:=(List.getElem?_eq_some_iff.1 hs).1;obtain⟨a1,c1,a2,c2,a3,n3,c3,rfl⟩:=h.sl;obtain⟨gb,cap,cur,⟨T,M,D,O,I⟩,e1,e2,e3,e4⟩:=h.st.el hs;obtain⟨ta,tn,tc,ma,mn,mc,da,dn,dc,oa,on,oc,ia,il,ic,e5⟩:=fG.sl e4;obtain⟨rfl,rfl,rfl,rfl,rfl⟩:T=_/\M=_/\D=_/\O=_/\I=_:=e5;cases e1
 refine ah Tryz.func34 rfl rfl ?_;refine λw1 b1 m1 g1 l1 w2 b2 m2 g2 l2=>?_
 have G:=g1.trans g2;refine⟨_,_,g2.get m1 nofun,_,rfl,_,_,g2.get m1 nofun,_,rfl,by omega,by omega,_,_,G.get e2 nofun,kL s ⟨.slice ta tn tc,.slice ma mn mc,.slice da dn dc,.slice oa on oc,.slice ia il ic⟩,?_,rfl,?_⟩
 ·show aK cur.toList (0+((f.2.length:Int) - 1).toNat*7) 7=_
  rw[Nat.zero_add,show((f.2.length:Int) - 1).toNat=f.2.length - 1 by omega];exact e3
 refine⟨_,_,_,m2,rfl,rfl,λw3 m3 g3=>?_⟩;have G3:GB none w w3:=g1.trans (g2.new g3 l2);refine⟨_,_,m3,_,rfl,rfl,?_⟩;exact⟨⟨_,rfl,fG.kz e4 G3.kz⟩,G3⟩
theorem Y4(h:ShAt w v s)(g:Nat):ag Tryz.prog 37 #[.agg (kL s v).toArray,.int .i64 g] w (λr w'=>(∃q,r=.agg #[.int .u32 (aT s.O g).1,q]/\qE w' q (aT s.O g).2)/\GB none w w'):=by
 obtain⟨T,M,D,O,I⟩:=v;obtain⟨qs,q1,⟨ia,ic,e,ih,il,id⟩,q3⟩:=fG.O h;obtain rfl:O=_:=e;obtain⟨k,hk⟩:∃k:Int,k=g:=⟨_,rfl⟩;rw[<-hk];refine ah Tryz.func37 rfl rfl ?_;refine λw1 b1 m1 g1 l1 w2 b2 m2 g2 l2=>?_
 have G:=g1.trans g2;have m1:=g2.get m1 nofun;refine aj (λc=>?_) (λc=>absurd (Ptq (b00 c)) (by omega));refine⟨_,_,m1,_,rfl,aj (λc=>?_) (λc=>?_)⟩
 ·have:=Ptq c
  refine⟨_,_,_,m2,rfl,rfl,λw3 m3 g3=>?_⟩;have G3:GB none w w3:=g1.trans (g2.new g3 l2);refine⟨_,_,m3,_,rfl,rfl,?_⟩;have e:aT s.O k=(0,[]):=by unfold aT;rw[getElem?_eq_none (by omega)];rfl
  rw[e];exact⟨⟨_,rfl,[],rfl,Fz.nil _ _ _,λ_ _ _ h=>by cases h⟩,G3⟩
 ·have d:g<s.O.length:=by have:=Ptx c;omega
  rcases id with⟨_,h0⟩|⟨B,off,cs,rfl,hB,hcut⟩
  ·omega
  obtain⟨o,ho⟩:∃o,s.O[g]? = some o:=⟨s.O[g],by simp[d]⟩;obtain⟨x,hx⟩:∃x,qs[g]? = some x:=⟨qs[g]'(by omega),by simp[q1,d]⟩;have e:aT s.O k=o:=by unfold aT;rw[hk,Int.toNat_natCast,ho];rfl
  have hq:=q3 g o x ho hx;obtain⟨qa,qn,qc,rfl⟩:∃a n c,x=.slice a n c:=by obtain⟨_,_,⟨a,c,e,_⟩,_⟩:=hq;exact⟨_,_,_,e⟩
  have hel:aK cs.toList (off+k.toNat*2) 2=[.int .u32 o.1,.slice qa qn qc]:=by rw[hk,Int.toNat_natCast];exact(Fz.elem hcut d).trans (Xn ho hx)
  refine⟨_,_,m1,_,rfl,by omega,_,_,G.get hB nofun,_,hel,rfl,?_⟩;refine⟨_,_,_,m2,rfl,rfl,λw3 m3 g3=>?_⟩;have G3:GB none w w3:=g1.trans (g2.new g3 l2);refine⟨_,_,m3,_,rfl,rfl,?_⟩;rw[e];exact⟨⟨_,rfl,hq.kz G3.kz⟩,G3⟩
end
section
variable{Λ:bU}{w:World}{bs:Nat}{S:Sit}
end
section
variable{w:World}
theorem qE.el{q:Value}{l:List Rg}(h:qE w q l){k:Nat}{r:Rg}(hr:l[k]? = some r):∃(B off cap:Nat) (cs:Array Value) (p:Value×Value),q=.slice (some ⟨B,off,none⟩) l.length cap/\w.heap[B]? = some (.cells cs 52)/\aK cs.toList (off+k*7) 7=eu r p.1 p.2/\aM w r p.1 p.2:=by
 obtain⟨vs,v1,⟨a,c,e,_,_,h3⟩,v3⟩:=h;have hk:k<l.length:=(List.getElem?_eq_some_iff.1 hr).1;obtain⟨p,hp⟩:∃p,vs[k]? = some p:=⟨vs[k]'(by omega),by simp[v1,hk]⟩;rcases h3 with⟨_,h0⟩|⟨B,off,cs,rfl,hB,hcut⟩
 ·omega
 exact⟨B,off,c,cs,p,e,hB,(Fz.elem hcut hk).trans (Td hr hp),v3 k r p hr hp⟩
end
def abY(A:aO):Prop:=∀{k:Nat} (s:St) (c:MC),k<=60->A.good k s->A.gc c->∀i:Nat,s.I.getD i 0<=(A.ap s c).1.I.getD i 0
section
variable{A:aO}{S:Sit}
theorem TC(A:aO)(s:St)(l:List MC){k j:Nat}(h:j<=k):(fB A s l k)[j]? = some (dY A s (l.take j)):=by
 unfold fB;rw[getElem?_map,getElem?_range (by omega)];rfl
theorem DL.len{sz:Nat}{Γ:Gh}{U:MC->Prop}(o:Γ.Ok sz U){l:List MC}(h:DL sz Γ l):l.length<=60/\∀c∈l,U c:=by
 constructor
 ·rcases Nat.lt_or_ge 60 l.length with q|q
  ·obtain⟨b,p,_⟩:=h 60 l[60] (by simp[q])
   have:=(o.wh p).2;omega
  ·exact q
 ·intro c hc
  obtain⟨k,hk⟩:=mem_iff_getElem?.1 hc;obtain⟨b,p,_⟩:=h k c hk;exact(o.wh p).1
theorem bW.bG(h:bW A S){g:Nat}(hg:g<S.C.n):(S.bG.getD g []).length<=60/\∀c∈S.bG.getD g [],A.gc c:=by
 obtain⟨Γ,H,ci,dl,_⟩:=h.gh;have:=(dl g hg).1.len (ci.ok g hg);exact⟨this.1,λc hc=>(this.2 c hc).1⟩
end
theorem Sit.TD(A:aO):∀(k:Nat) (S:Sit),(S.all A k).C.n=S.C.n
 |0,_=>rfl
 |k+1,S=>by
  unfold Sit.all;split
  ·exact(Sit.TD A k (S.one A)).trans (aL.jl A S.C S.next).1
  ·rfl
theorem Sit.Oo(S:Sit):∀i,(S.dX i).1.C=S.C
 |0=>rfl
 |i+1=>by
  have ih:=Sit.Oo S i;unfold Sit.dX;generalize S.dX i=p at ih;obtain⟨T,b⟩:=p;cases b
  ·exact ih
  ·show(T.dz i).1.C=S.C
   rw[<-show T.C=S.C from ih];unfold Sit.dz;split
   ·rfl
   ·split<;>exact(T.CB i).1
theorem Sit.Qe(A:aO)(S:Sit)(t:Stp):(S.do A t).1.C.n=S.C.n:=by
 unfold Sit.do;generalize bz t.kind 7=k;unfold Sit.uz;split
 ·show(if _ then _ else _:Sit).C.n=_
  split
  ·exact(S.C.pV _ _ _).1
  ·rfl
 ·show(S.uy A t).C.n=_
  unfold Sit.uy;split
  ·split<;>exact(S.C.pV _ _ _).1
  ·exact(S.C.pV _ _ _).1
 ·split
  ·exact(aL.jl _ _ _).1
  ·rfl
 ·split
  ·exact(aL.jl _ _ _).1
  ·rfl
 ·exact(aL.oh _ _ _ _).1
 ·exact(aL.vB _ _ _ _).1.trans (congrArg aL.n (Sit.Oo S _))
 ·exact Sit.TD A _ S
section
variable{A L:aO}(HA:bH A)(HN:dH A)(HL:qb A)(HP:rV A)(HA1:bH L)(LK:dH L)(LQ:qb L)(HV:BQ L)(hL:L.N=1){W:World}
include HA HN HL HP HA1 LK LQ HV hL
theorem VU{g f:Int}(hg:xC g)(hf:xC f)(TE:1+bz g 4=A.N){l:List Stp}{v:Value}(hl:FzZ W 11 v l.length (l.map Stp.cells).flatten)(hn:l.length<=9223372036854775807)(hwf:∀t∈l,t.wf A):gQ Tryz.prog 27 #[.int .i64 g,.int .i64 f,v] W (λx w'=>∃bs S,x=.tuple #[Ptt bs,.bool true]/\df (fI W) bs S w'/\bW A S/\S.Ga/\S.C.n=A.N):=by
 obtain⟨va,vc,rfl,hvc,hvl,hvd⟩:=hl;refine Fy fD Tryz.func27 rfl rfl ?_;refine aG.piece (Q:=λq w'=>q=[(0,.int .i64 g),(1,.int .i64 f),(2,.slice va l.length vc)]/\w'=W) (aG.e ⟨_,by exact⟨rfl,rfl,rfl,trivial⟩,rfl,rfl⟩) ?_;rintro q W ⟨rfl,rfl⟩;refine aG.piece (Q:=λq w1=>∃bs,q=[(2,.slice va l.length vc),(8,Ptt bs),(9,.bool true)]/\df (fI W) bs (Sit.new A (1+bz g 4) (1+2*bz f 3)) w1) (aG.e ?_) ?_
 ·refine⟨_,VK HA1 LK LQ HV HA hL W g f hg hf,?_⟩
  rintro _ w1 ⟨bs,rfl,h1,k1⟩;exact⟨_,by exact⟨rfl,rfl,rfl,trivial⟩,bs,rfl,h1⟩
 rintro q w1 ⟨bs,rfl,h1⟩;have lf:=jy f (show 0<3 by decide);have lg:=jy g (show 0<4 by decide);obtain⟨F0,L0⟩:=bW.new HA HN (n:=1+bz g 4) (sz:=1+2*bz f 3) ⟨by omega,by omega⟩ TE ⟨by omega,by omega⟩;have N0:(Sit.new A (1+bz g 4) (1+2*bz f 3)).C.n=A.N:=TE;generalize Sit.new A (1+bz g 4) (1+2*bz f 3)=S0 at *;refine aG.piece (Q:=λq w4=>q=[(8,Ptt bs),(9,.bool true)]/\∃S,df (fI W) bs S w4/\bW A S/\S.Ga/\S.C.n=A.N) ?_ ?_;rotate_left
 ·rintro q w4 ⟨rfl,S,h4,i4⟩
  refine aG.e ?_;exact⟨bs,S,rfl,h4,i4⟩
 refine aG.piece (Q:=λq w'=>q=[(2,.slice va l.length vc),(8,Ptt bs),(9,.bool true),(10,.int .i64 0)]/\w'=w1) (aG.e ⟨_,by exact⟨rfl,rfl,rfl,rfl,trivial⟩,rfl,rfl⟩) ?_;rintro q w1 ⟨rfl,rfl⟩;refine aG.block ?_;refine aG.loop (λm s wk=>∃(i:Nat) (S:Sit),m=l.length - i/\i<=l.length/\s=[(2,.slice va l.length vc),(8,Ptt bs),(9,.bool true),(10,.int .i64 i)]/\bW A S/\df (fI W) bs S wk/\(i=l.length->S.Ga)/\S.C.n=A.N) ⟨_,_,⟨0,S0,rfl,Nat.zero_le _,rfl,F0,h1,λ_=>L0,N0⟩,rfl,rfl,rfl,rfl,trivial⟩ ?_;clear h1 F0 L0 N0;rintro m s wk ⟨i,S,rfl,hi,rfl,hS,hK,hLk,hCn⟩;refine aG.cut (Qn:=λq w'=>i<l.length/\q=[(2,.slice va l.length vc),(8,Ptt bs),(10,.int .i64 i)]/\w'=wk) (Qx:=λj q w'=>j=0/\i=l.length/\q=[(8,Ptt bs),(9,.bool true)]/\w'=wk) (Qr:=λ_ _=>False) (aG.e ?_) ?_ ?_ (λ_ _ _ h _=>h.elim)
 ·refine aj (λc=>?_) (λc=>?_)
  ·exact⟨_,by exact⟨rfl,rfl,rfl,trivial⟩,by simp at c;omega,rfl,rfl⟩
  ·exact⟨_,by exact⟨rfl,rfl,trivial⟩,rfl,by simp at c;omega,rfl,rfl⟩
 rotate_left
 ·rintro j q s w' ⟨rfl,e,rfl,rfl⟩ hs
  exact⟨_,hs,rfl,S,hK,hS,hLk e,hCn⟩
 rintro q wk ⟨c1,rfl,rfl⟩;rcases hvd with h0|⟨Bv,LU,csv,tyv,zv',rfl,hBv,hcv⟩
 ·omega
 obtain⟨t,ht⟩:∃t,l[i]? = some t:=⟨l[i],by simp[c1]⟩;have twf:=hwf t (List.mem_of_getElem? ht);have hel:aK csv.toList (LU+i*11) 11=t.cells:=(Fz.elem hcv c1).trans (YW ht);refine aG.piece (Q:=λq w'=>q=[(2,.slice (some ⟨Bv,LU,none⟩) l.length vc),(8,Ptt bs),(9,.bool true),(10,.int .i64 i)]/\∃S,bW A S/\df (fI W) bs S w'/\(i+1=l.length->S.Ga)/\S.C.n=A.N) ?_ ?_;rotate_left
 ·rintro q w' ⟨rfl,S',f1,h',f2,f3⟩
  refine aG.e ?_;exact⟨by omega,_,_,⟨i+1,S',rfl,by omega,rfl,f1,h',f2,f3⟩,⟨rfl,rfl,rfl,rfl,trivial⟩,by omega⟩
 refine aG.block ?_;refine aG.piece (Q:=λq w'=>q=[(2,.slice (some ⟨Bv,LU,none⟩) l.length vc),(8,Ptt bs),(9,.bool true),(10,.int .i64 i)]/\∃S,bW A S/\df (fI W) bs S w'/\S.C.n=A.N) (aG.of (afu zv') mixed ?_) ?_
 ·have hd:=aft HA HN HL hK hS.fine twf
  obtain⟨d1,d2⟩:=bW.do HA HN HL HP hS twf;rw[d1]at hd;refine⟨by omega,_,_,hK.snap.get hBv nofun,t.cells,by show aK csv.toList (LU+(i:Int).toNat*11) 11=_;rw[Int.toNat_natCast];exact hel,rfl,_,hd,?_⟩;rintro _ w' ⟨rfl,h',k'⟩;exact⟨_,by exact⟨rfl,rfl,rfl,rfl,trivial⟩,rfl,_,d2,h',(Sit.Qe A S t).trans hCn⟩
 rintro q w5 ⟨rfl,S1,i1,h5,n5⟩;obtain⟨b1,b2,b3,b4⟩:=i1.look;have hlk:=SV HN h5 i1.fine;rw[b1]at hlk;refine aG.piece (Q:=λq w'=>∃r,(r=false->i+1≠l.length)/\q=[(2,.slice (some ⟨Bv,LU,none⟩) l.length vc),(8,Ptt bs),(9,.bool true),(10,.int .i64 i),(44,.bool r)]/\w'=w5) (aG.e ?_) ?_
 ·refine⟨by decide,?_⟩
  refine aj (λc=>?_) (λc=>?_)
  ·exact⟨by omega,_,by exact⟨rfl,rfl,rfl,rfl,rfl,trivial⟩,_,λe=>(by have t:¬((i:Int)+1=l.length):=(by simpa using e);omega),rfl,rfl⟩
  ·exact⟨_,by exact⟨rfl,rfl,rfl,rfl,rfl,trivial⟩,_,λe=>(by cases e),rfl,rfl⟩
 rintro q w5 ⟨r,hr,rfl,rfl⟩;refine aG.cond r rfl ?_;cases r
 ·refine aG.e ?_
  exact⟨_,by exact⟨rfl,rfl,rfl,rfl,trivial⟩,rfl,S1,i1,h5,λe=>(hr rfl e).elim,n5⟩
 ·refine aG.e ?_
  refine⟨_,hlk.x,?_⟩;rintro _ w6 ⟨rfl,h6,_⟩;exact⟨_,by exact⟨rfl,rfl,rfl,rfl,trivial⟩,rfl,_,b2,h6,λ_=>b4,(congrArg aL.n b3).trans n5⟩
end
section
variable{A L:aO}(HA:bH A)(HN:dH A)(HL:qb A)(HP:rV A)(HB:Lu A)(HU:abY A)(HA1:bH L)(LK:dH L)(LQ:qb L)(HV:BQ L)(hL:L.N=1){W:World}
include HA HN HL HP HB HU HA1 LK LQ HV hL
end
theorem Hl{b:bF}(h:b.W):nb b=b:=by
 unfold nb;rw[Nat.mod_eq_of_lt (Nat.lt_succ_of_le h.1),Nat.mod_eq_of_lt h.2]
theorem TF{m m':MM}(hk:m.kind=2)(hd:pq (rQ m)=some m'):m'.kind=2:=by
 obtain⟨ok',e⟩:=wG hd;unfold rQ at e;split at e
 case isFalse=>subst e;exact absurd ok' (by decide)
 rw[Cy]at e;unfold kN at e;obtain⟨kd,q,p,b,s,c,vs,r,peer,seq⟩:=m;obtain rfl:kd=2:=hk;have e:(dW (dn ([((2:Nat):Int)]++ny p))).1=m':=e;rw[lT (by decide),Xq]at e;subst e;rfl
theorem adh(l:List Nat):gT 1 l=(rn p9 l λq l=>({ aN ((1:Nat):Int)with q:=q },l)):=rfl
theorem VV{q:bQ}(hq:q.b)(ho:jN q=true){m':MM}(hd:pq (rQ { aN 1 with q:=q })=some m'):m'={ aN 1 with q:=q }:=by
 obtain⟨ok',e⟩:=wG hd;unfold rQ at e;split at e
 case isFalse=>subst e;exact absurd ok' (by decide)
 rw[Cy]at e;unfold kN at e;have e:(dW (dn ([((1:Nat):Int)]++uE q))).1=m':=e;rw[lT (by decide),adh,rU,dP (Lf hq ho [])]at e;subst e;rfl
def kg(s:St):Prop:=∀(d:Nat) o,s.O[d]? = some o->∀r∈o.2,r.dst=d
theorem kg.set{s:St}(h:kg s){k:Nat}{a:Int}{l:List Rg}(hl:k<s.O.length->∀r∈l,r.dst=k){T:List Row}{M:List Pc}{D:List aA}:kg { s with T:=T,M:=M,D:=D,O:=s.O.set k (a,l) }:=by
 intro d o ho r hr;replace ho:(s.O.set k (a,l))[d]? = some o:=ho;rw[getElem?_set]at ho;split at ho
 ·rename_i e
  subst e;split at ho
  ·rename_i lt
   cases ho
   exact hl lt r hr
  ·cases ho
 ·exact h d o ho r hr
theorem Oq{s:St}(h:kg s){k:Int}(h0:0<=k):∀r∈(aT s.O k).2,r.dst=k:=by
 intro r hr;unfold aT at hr;cases ho:s.O[k.toNat]? with
 |none=>rw[ho]at hr;cases hr
 |some o=>rw[ho]at hr;rw[h _ o ho r hr];omega
theorem kg.do_{s:St}(h:kg s){q:bQ}(h0:0<=q.to):kg (nX s q):=by
 unfold nX;split
 ·exact h
 split
 ·exact h
 split
 ·refine kg.set h λ_ r hr=>?_
  rcases mem_append.1 hr with x|x
  ·rw[Oq h h0 r x];omega
  ·rw[mem_singleton.1 x];show q.to=_;omega
 ·exact h
theorem kg.app{N:Nat}{s:St}(h:kg s){c:MC}(hc:jO N c)(hq:0<=c.q.to):kg (lQ s c).1:=by
 unfold lQ;split
 ·unfold tq
  split
  ·exact h
  split
  ·exact h
  split
  ·split
   ·split
    ·exact h.do_ hq
    ·split<;>exact h
   ·exact h
  ·exact h.do_ hq
 split
 ·unfold uF
  split<;>exact h
 split
 ·show kg (sZ _ _ _)
  unfold sZ;split
  ·refine kg.set h λ_ r hr=>?_
   have h0:=hc.peer.1;rw[Oq h h0 r (mem_filter.1 hr).1];omega
  ·exact h
 ·exact h
theorem kg.fold{N:Nat}:∀{l:List MC} {s:St},kg s->(∀c∈l,jO N c/\0<=c.q.to)->kg (dY (jG N) s l)
 | [],_,h,_=>h
 |c::l,s,h,hl=>kg.fold (l:=l) (h.app (hl c (by simp)).1 (hl c (by simp)).2) λc' hc'=>hl c' (by simp[hc'])
theorem VW(N:Nat):abY (jG N):=by
 intro k s c hk hs hc i;show s.I.getD i 0<=(lQ s c).1.I.getD i 0;have hs:dB N k s:=hs;unfold lQ;split
 ·have:(tq s c.q).1.I=s.I:=by
   have hd:(nX s c.q).I=s.I:=by
    unfold nX;repeat' split
    all_goals rfl
   unfold tq;repeat' split
   all_goals first|rfl|exact hd
  rw[this];exact Int.le_refl _
 split
 ·show _<=(uF s c.r).I.getD i 0
  unfold uF;split
  ·rename_i e
   show _<=(s.I.set c.r.src.toNat c.r.seq).getD i 0;rw[getD_eq_getElem?_getD,getD_eq_getElem?_getD,getElem?_set];split
   ·rename_i e2
    subst e2;split
    ·rename_i lt
     have e3:=e.2.1;unfold xq at e3;simp only[Bool.and_eq_true,beq_iff_eq]at e3;have e4:=e3.2;rw[getElem?_eq_getElem lt]at e4 |-;have b:=hs.i _ (getElem_mem lt);have:=hs.xz;simp only[Option.getD_some]at e4 |-;rw[e4];have w1:IntKind.u32.wrap (s.I[c.r.src.toNat]+1)=s.I[c.r.src.toNat]+1:=wrap_u32 (by omega);omega
    ·rename_i lt;rw[getElem?_eq_none (by omega)];exact Int.le_refl _
   ·exact Int.le_refl _
  ·exact Int.le_refl _
 split
 ·show _<=(sZ s c.peer c.seq).I.getD i 0
  unfold sZ;split<;>exact Int.le_refl _
 ·exact Int.le_refl _
theorem qN{N n:Nat}{m m':MM}(h:MG (jG N) n m)(k:m.kind≠2)(hd:pq (rQ m)=some m'):m'=BS m:=(Tk h hd).elim (λq=>(k q.1).elim) And.left
theorem abZ(N:Nat):rV (jG N) where
 fO:=λ{k b m} hk hb hd=>by
  rcases hk with rfl|rfl
  ·dsimp only[jG]at hd
   rw[qN (N:=N) (n:=0) (MG.fO (.inl rfl) hb.1) (λe=>absurd (show(3:Int)=2 from e) (by decide)) hd];simp[BS,aN,Hl hb]
  ·dsimp only[jG]at hd
   rw[qN (N:=N) (n:=0) (MG.fO (.inr rfl) hb.1) (λe=>absurd (show(5:Int)=2 from e) (by decide)) hd];simp[BS,aN,Hl hb]
 prom:=λ{b vs m} hb hl hv hd=>by
  have e:vs.map nv=vs:=by
   refine(map_congr_left λv q=>?_).trans (map_id _);obtain⟨_,h2,h3⟩:=hv v q;show(⟨v.slot%4294967296,nb v.b,v.c⟩:MV)=v;rw[Nat.mod_eq_of_lt (Nat.lt_trans h2 (by decide)),Hl h3]
  dsimp only[jG]at hd;rw[qN (N:=N) (n:=0) (MG.promise hb.1 (λv q=>⟨(hv v q).1,(hv v q).2.1⟩) hl) (λe=>absurd (show(4:Int)=2 from e) (by decide)) hd];simp[BS,aN,Hl hb,e]
 acc:=λ{b s c m} hb hs hc hd=>by
  dsimp only[jG]at hd;rw[qN (N:=N) (n:=0) (MG.accept hb.1 hs hc) (λe=>absurd (show(6:Int)=2 from e) (by decide)) hd];simp[BS,aN,Hl hb,Nat.mod_eq_of_lt (Nat.lt_trans hs (by decide:60<4294967296))]
 qI:=λ{b s m} hb hs hd=>by
  dsimp only[jG]at hd;rw[qN (N:=N) (n:=0) (MG.accepted hb.1 hs) (λe=>absurd (show(7:Int)=2 from e) (by decide)) hd];simp[BS,aN,Hl hb,Nat.mod_eq_of_lt (Nat.lt_trans hs (by decide:60<4294967296))]
 dec:=λ{s c m} hs hc hd=>by
  dsimp only[jG]at hd;rw[qN (N:=N) (n:=0) (MG.decide hs hc) (λe=>absurd (show(8:Int)=2 from e) (by decide)) hd];simp[BS,aN,Nat.mod_eq_of_lt (Nat.lt_trans hs (by decide:60<4294967296))]
 tell:=λhk hd=>TF hk hd
 ask:=λ{q m} hc hd=>by
  have hc:jO N (fQ q):=hc;exact VV hc.q (hc.ask rfl) hd
 lU:=λ{r m} hc hd=>by
  have hg:jO N (kZ r):=hc;dsimp only[jG]at hd;rw[qN (N:=N) (n:=N) (MG.move (r:=r) ⟨hg.r.src.1,by have a:r.src<N:=hg.src rfl;have b:0<=r.src:=hg.r.src.1;omega,by have:r.seq<4294967296:=hg.r.seq.2;omega,hc⟩) (λe=>absurd (show(9:Int)=2 from e) (by decide)) hd];simp[BS,aN]
 jC:=λ{p s m} hc hd=>by
  have hg:jO N (oZ p s):=hc;dsimp only[jG]at hd;rw[qN (N:=N) (n:=256) (MG.Pz (p:=p) (s:=s) ⟨hg.peer.1,by have a:0<=p:=hg.peer.1;have b:p<256:=hg.peer.2;omega,hc⟩) (λe=>absurd (show(10:Int)=2 from e) (by decide)) hd];simp[BS,aN]
 dst:=λ{g n l} hl=>kg.fold (λd o ho r hr=>by
  replace ho:(replicate n ((1:Int),([]:List Rg)))[d]? = some o:=ho;rw[getElem?_replicate]at ho;split at ho
  ·cases ho;cases hr
  ·cases ho) λc hc=>⟨hl c hc,(hl c hc).q.to.1⟩
end
