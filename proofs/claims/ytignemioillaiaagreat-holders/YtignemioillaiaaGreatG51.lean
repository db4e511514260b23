/- Lemmas. -/
import Derived.Test.YtignemioillaiaaGreatG50
namespace Go.Proofs.YtignemioillaiaaGreat
set_option maxHeartbeats 8000000
set_option maxRecDepth 100000
open List
section
open Go Go.Conc
structure V5 where
 (T M D O I:Value)
def kL(s:St)(v:V5):List Value:=[.int .u8 s.g,.int .u8 s.n,v.T,v.M,v.D,v.O,v.I]
def ShAt(w:World)(v:V5)(s:St):Prop:=fG w v.T v.M v.D v.O v.I s
def yQ(w:World)(Z:Nat->Prop)(v:V5)(s:St):Prop:=∀w':World,(∀x,Z x->w'.heap[x]? = w.heap[x]?)->ShAt w' v s
theorem yQ.mono{w w':World}{Z Z':Nat->Prop}{v:V5}{s:St}(h:yQ w Z v s)(hz:∀x,Z x->Z' x)(hw:∀x,Z x->w'.heap[x]? = w.heap[x]?):yQ w' Z' v s:=λw'' e=>h w'' λx hx=>(e x (hz x hx)).trans (hw x hx)
def zV(w:World)(v:Value)(l:List St):Prop:=∃vs:List V5,vs.length=l.length/\w.ownsRow 0 31 7 v l.length (zipWith kL l vs).flatten/\∀(i:Nat) (s:St) (x:V5),l[i]? = some s->vs[i]? = some x->ShAt w x s
def fB(A:aO)(s:St)(l:List MC)(k:Nat):List St:=(List.range (k+1)).map λj=>dY A s (l.take j)
theorem MS(A:aO)(s:St)(l:List MC)(k:Nat):fB A s l (k+1)=fB A s l k++[dY A s (l.take (k+1))]:=by unfold fB;rw[range_succ,map_append];rfl
theorem Gb{A:aO}{s:St}{l:List MC}{k:Nat}{c:MC}(h:l[k]? = some c):dY A s (l.take (k+1))=(A.ap (dY A s (l.take k)) c).1:=by
 unfold dY;rw[take_add_one,h,foldl_append];rfl
theorem zW{A:aO}(HA:bH A){s:St}(h0:A.good 0 s){l:List MC}(hl:l.length<=60)(hc:∀c∈l,A.gc c):∀k,k<=l.length->A.good k (dY A s (l.take k))
 |0,_=>h0
 |k+1,hk=>by
  obtain⟨c,e⟩:∃c,l[k]? = some c:=⟨l[k],by simp[show k<l.length from hk]⟩;rw[Gb e];exact HA.Jg _ _ (by omega) (zW HA h0 hl hc k (by omega)) (hc c (List.mem_of_getElem? e))
structure Fo(W w:World)(b4 b5 b7:Nat)(lv sv rv:Value)(jb:List St)(nr:Nat)(sx:St)(Z:Nat->Prop):Prop where
 m4:w.heap[b4]? = some (.cells #[Ptz,Ptz,Ptz] 94)
 mx:∃v:V5,w.heap[b5]? = some (.cells (kL sx v).toArray 31)/\yQ w Z v sx
 mf:w.heap[b7]? = some (.cells #[lv,sv,rv] 94)
 st:∃vs:List V5,vs.length=jb.length/\w.ownsRow 0 31 7 sv jb.length (zipWith kL jb vs).flatten/\∀(i:Nat) (s:St) (x:V5),jb[i]? = some s->vs[i]? = some x->yQ w Z x s
 rp:∃xs,w.ownsRow 0 57 7 rv nr xs
 zl:∀x,Z x->x<w.heap.size/\W.heap.size<=x
 n4:W.heap.size<=b4/\¬Z b4
 n5:W.heap.size<=b5/\¬Z b5
 n7:W.heap.size<=b7/\¬Z b7
 ns:∀x,sv.ownBlock=some x->W.heap.size<=x/\¬Z x/\x≠b5
 Gc:∀x,rv.ownBlock=some x->W.heap.size<=x/\¬Z x
 g:GB none W w
 ne:b4≠b7
section
variable{W w w' w6 w7 w8:World}{b4 b5 b7:Nat}{lv sv rv bX rv':Value}{jb:List St}{nr:Nat}{sx:St}{Z:Nat->Prop}
theorem Fo.gb(h:Fo W w b4 b5 b7 lv sv rv jb nr sx Z)(g:GB none w w'):Fo W w' b4 b5 b7 lv sv rv jb nr sx Z:=by
 obtain⟨v,x1,x2⟩:=h.mx;obtain⟨vs,s1,s2,s3⟩:=h.st;obtain⟨xs,r1⟩:=h.rp;have hz:∀x,Z x->w'.heap[x]? = w.heap[x]?:=λx hx=>g.block x (h.zl x hx).1 nofun
 exact⟨g.get h.m4 nofun,⟨v,g.get x1 nofun,x2.mono (λ_ q=>q) hz⟩,g.get h.mf nofun,⟨vs,s1,ay s2 λx hx=>by obtain⟨c,hc⟩:=ax s2 hx;exact g.block x (ae hc) nofun,λi s x a b=>(s3 i s x a b).mono (λ_ q=>q) hz⟩,⟨xs,ay r1 λx hx=>by obtain⟨c,hc⟩:=ax r1 hx;exact g.block x (ae hc) nofun⟩,λx hx=>⟨Nat.lt_of_lt_of_le (h.zl x hx).1 g.size,(h.zl x hx).2⟩,h.n4,h.n5,h.n7,h.ns,h.Gc,h.g.trans g,h.ne⟩
theorem Fo.wide(h:Fo W w b4 b5 b7 lv sv rv jb nr sx Z)(g:GB none w w'){lo hi:Nat}(hlo:w.heap.size<=lo)(hhi:hi<=w'.heap.size):Fo W w' b4 b5 b7 lv sv rv jb nr sx λx=>Z x\/lo<=x/\x<hi:=by
 have h':=h.gb g;obtain⟨v,x1,x2⟩:=h'.mx;obtain⟨vs,s1,s2,s3⟩:=h'.st;obtain⟨_,x0,_⟩:=h.mx;obtain⟨_,_,t2,_⟩:=h.st;obtain⟨_,r1⟩:=h.rp;have lt:∀{x:Nat},x<w.heap.size->¬Z x->¬(Z x\/lo<=x/\x<hi):=λ{x} hx hz=>by rintro(q|q);exact hz q;omega
 exact⟨h'.m4,⟨v,x1,x2.mono (λ_ q=>.inl q) λ_ _=>rfl⟩,h'.mf,⟨vs,s1,s2,λi s x a b=>(s3 i s x a b).mono (λ_ q=>.inl q) λ_ _=>rfl⟩,h'.rp,λx hx=>by
  rcases hx with q|q
  ·exact h'.zl x q
  ·have:=h.g.size;omega,⟨h.n4.1,lt (ae h.m4) h.n4.2⟩,⟨h.n5.1,lt (ae x0) h.n5.2⟩,⟨h.n7.1,lt (ae h.mf) h.n7.2⟩,λx hx=>⟨(h.ns x hx).1,lt (by obtain⟨c,hc⟩:=ax t2 hx;exact ae hc) (h.ns x hx).2.1,(h.ns x hx).2.2⟩,λx hx=>⟨(h.Gc x hx).1,lt (by obtain⟨c,hc⟩:=ax r1 hx;exact ae hc) (h.Gc x hx).2⟩,h'.g,h.ne⟩
theorem iy{w:World}{x y:Nat}{c d:Array Value}{t u:TypeId}(h:w.heap[x]? = some (.cells c t))(k:w.heap[y]? = some (.cells d u))(n:t≠u):x≠y:=λe=>by subst e;rw[h]at k;injection k with k;injection k with _ k;exact n k
theorem Fo.app(h:Fo W w b4 b5 b7 lv sv rv jb nr sx Z){s:St}{v:V5}(hv:yQ w Z v s){vs:List V5}(s1:vs.length=jb.length)(s2:w.ownsRow 0 31 7 sv jb.length (zipWith kL jb vs).flatten)(s3:∀(i:Nat) (s:St) (x:V5),jb[i]? = some s->vs[i]? = some x->yQ w Z x s)(ho:w7.ownsRow 0 31 7 bX (jb.length+1) ((zipWith kL jb vs).flatten++kL s v))(g7:GB sv.ownBlock w w7)(n7:∀x,bX.ownBlock=some x->sv.ownBlock=some x\/w.heap.size<=x)(m8:w8.heap[b7]? = some (.cells #[lv,bX,rv] 94))(g8:GB (some b7) w7 w8):Fo W w8 b4 b5 b7 lv bX rv (jb++[s]) nr sx Z:=by
 obtain⟨vx,x1,x2⟩:=h.mx;obtain⟨xs,r1⟩:=h.rp;have z7:=g7.size;have no:∀{x:Nat} {c:Array Value} {u:TypeId},w.heap[x]? = some (.cells c u)->u≠31->sv.ownBlock≠some x:=λ{x c u} hx hu e=>by obtain⟨c',hc⟩:=ax s2 e;exact iy hx hc hu rfl
 have kp:∀x,x<w.heap.size->sv.ownBlock≠some x->x≠b7->w8.heap[x]? = w.heap[x]?:=λx hx a b=>(g8.block x (by omega) λe=>b (Option.some.inj e)).trans (g7.block x hx λe=>a e.symm)
 have hz:∀x,Z x->w8.heap[x]? = w.heap[x]?:=λx hx=>kp x (h.zl x hx).1 (λe=>(h.ns x e).2.1 hx) λe=>h.n7.2 (e▸hx)
 obtain⟨c9,h9⟩:∃c,w7.heap[b7]? = some (.cells c 94):=⟨_,g7.get h.mf (no h.mf (by decide)).symm⟩;have ob:∀x,bX.ownBlock=some x->w8.heap[x]? = w7.heap[x]?:=λx hx=>by
  obtain⟨c,hc⟩:=ax ho hx;exact g8.block x (ae hc) λe=>by cases e;exact iy hc h9 (by decide) rfl
 refine⟨?_,⟨vx,?_,x2.mono (λ_ q=>q) hz⟩,m8,⟨vs++[v],by simp[s1],?_,λi s' x a b=>?_⟩,⟨xs,ay r1 λx hx=>?_⟩,λx hx=>⟨?_,(h.zl x hx).2⟩,h.n4,h.n5,h.n7,λx hx=>?_,h.Gc,?_,h.ne⟩
 ·rw[kp b4 (ae h.m4) (no h.m4 (by decide)) h.ne];exact h.m4
 ·rw[kp b5 (ae x1) (λe=>(h.ns _ e).2.2 rfl) (iy x1 h.mf (by decide))];exact x1
 ·rw[length_append,zipWith_append (by rw[s1]),flatten_append]
  refine ay ?_ ob;simpa using ho
 ·rw[getElem?_append]at a b
  rw[s1]at b;split at a
  ·rename_i lt
   rw[if_pos lt]at b;exact(s3 i s' x a b).mono (λ_ q=>q) hz
  ·rename_i lt
   rw[if_neg lt]at b;have:i=jb.length:=by have:=(List.getElem?_eq_some_iff.1 a).1;simp at this;omega
   subst this;simp at a b;subst a b;exact hv.mono (λ_ q=>q) hz
 ·obtain⟨c,hc⟩:=ax r1 hx
  exact kp x (ae hc) (no hc (by decide)) (iy hc h.mf (by decide))
 ·have:=(h.zl x hx).1;have:=g8.size;omega
 ·rcases n7 x hx with q|q
  ·exact h.ns x q
  ·exact⟨by have:=h.g.size;omega,λhz=>by have:=(h.zl x hz).1;omega,λe=>by have:=ae x1;omega⟩
 ·refine⟨g8.os.trans (g7.os.trans h.g.os),g8.out.trans (g7.out.trans h.g.out),by have:=h.g.size;have:=g8.size;omega,λx hx _=>?_⟩
  have:=h.g.size;exact(kp x (by omega) (λe=>by have:=(h.ns x e).1;omega) (λe=>by have:=h.n7.1;omega)).trans (h.g.block x hx nofun)
theorem Fo.rep(h:Fo W w b4 b5 b7 lv sv rv jb nr sx Z){xs ys:List Value}(r1:w.ownsRow 0 57 7 rv nr xs)(ho:w7.ownsRow 0 57 7 rv' (nr+1) ys)(g7:GB rv.ownBlock w w7)(n7:∀x,rv'.ownBlock=some x->rv.ownBlock=some x\/w.heap.size<=x)(m8:w8.heap[b7]? = some (.cells #[lv,sv,rv'] 94))(g8:GB (some b7) w7 w8):Fo W w8 b4 b5 b7 lv sv rv' jb (nr+1) sx Z:=by
 obtain⟨vx,x1,x2⟩:=h.mx;obtain⟨vs,s1,s2,s3⟩:=h.st;have z7:=g7.size;have no:∀{x:Nat} {c:Array Value} {u:TypeId},w.heap[x]? = some (.cells c u)->u≠57->rv.ownBlock≠some x:=λ{x c u} hx hu e=>by obtain⟨c',hc⟩:=ax r1 e;exact iy hx hc hu rfl
 have kp:∀x,x<w.heap.size->rv.ownBlock≠some x->x≠b7->w8.heap[x]? = w.heap[x]?:=λx hx a b=>(g8.block x (by omega) λe=>b (Option.some.inj e)).trans (g7.block x hx λe=>a e.symm)
 have hz:∀x,Z x->w8.heap[x]? = w.heap[x]?:=λx hx=>kp x (h.zl x hx).1 (λe=>(h.Gc x e).2 hx) λe=>h.n7.2 (e▸hx)
 obtain⟨c9,h9⟩:∃c,w7.heap[b7]? = some (.cells c 94):=⟨_,g7.get h.mf (no h.mf (by decide)).symm⟩;refine⟨?_,⟨vx,?_,x2.mono (λ_ q=>q) hz⟩,m8,⟨vs,s1,ay s2 λx hx=>?_,λi s' x a b=>(s3 i s' x a b).mono (λ_ q=>q) hz⟩,⟨ys,ay ho λx hx=>?_⟩,λx hx=>⟨?_,(h.zl x hx).2⟩,h.n4,h.n5,h.n7,h.ns,λx hx=>?_,?_,h.ne⟩
 ·rw[kp b4 (ae h.m4) (no h.m4 (by decide)) h.ne];exact h.m4
 ·rw[kp b5 (ae x1) (no x1 (by decide)) (iy x1 h.mf (by decide))];exact x1
 ·obtain⟨c,hc⟩:=ax s2 hx
  exact kp x (ae hc) (no hc (by decide)) (iy hc h.mf (by decide))
 ·obtain⟨c,hc⟩:=ax ho hx
  exact g8.block x (ae hc) λe=>by cases e;exact iy hc h9 (by decide) rfl
 ·have:=(h.zl x hx).1;have:=g8.size;omega
 ·rcases n7 x hx with q|q
  ·exact h.Gc x q
  ·exact⟨by have:=h.g.size;omega,λhz=>by have:=(h.zl x hz).1;omega⟩
 ·refine⟨g8.os.trans (g7.os.trans h.g.os),g8.out.trans (g7.out.trans h.g.out),by have:=h.g.size;have:=g8.size;omega,λx hx _=>?_⟩
  have:=h.g.size;exact(kp x (by omega) (λe=>by have:=(h.Gc x e).1;omega) (λe=>by have:=h.n7.1;omega)).trans (h.g.block x hx nofun)
theorem Fo.now(h:Fo W w b4 b5 b7 lv sv rv jb nr sx Z){s:St}{v:V5}(hv:yQ w Z v s)(m8:w8.heap[b5]? = some (.cells (kL s v).toArray 31))(g8:GB (some b5) w w8):Fo W w8 b4 b5 b7 lv sv rv jb nr s Z:=by
 obtain⟨vx,x1,x2⟩:=h.mx;obtain⟨vs,s1,s2,s3⟩:=h.st;obtain⟨xs,r1⟩:=h.rp;have kp:∀x,x<w.heap.size->x≠b5->w8.heap[x]? = w.heap[x]?:=λx hx b=>g8.block x hx λe=>b (Option.some.inj e)
 have hz:∀x,Z x->w8.heap[x]? = w.heap[x]?:=λx hx=>kp x (h.zl x hx).1 λe=>h.n5.2 (e▸hx)
 refine⟨?_,⟨v,m8,hv.mono (λ_ q=>q) hz⟩,?_,⟨vs,s1,ay s2 λx hx=>?_,λi s' x a b=>(s3 i s' x a b).mono (λ_ q=>q) hz⟩,⟨xs,ay r1 λx hx=>?_⟩,λx hx=>⟨?_,(h.zl x hx).2⟩,h.n4,h.n5,h.n7,h.ns,h.Gc,h.g.new g8 h.n5.1,h.ne⟩
 ·rw[kp b4 (ae h.m4) (iy h.m4 x1 (by decide))];exact h.m4
 ·rw[kp b7 (ae h.mf) (iy h.mf x1 (by decide))];exact h.mf
 ·obtain⟨c,hc⟩:=ax s2 hx
  exact kp x (ae hc) (h.ns x hx).2.2
 ·obtain⟨c,hc⟩:=ax r1 hx
  exact kp x (ae hc) (iy hc x1 (by decide))
 ·have:=(h.zl x hx).1;have:=g8.size;omega
end
section
variable{A:aO}(HA:bH A){Λ:bU}{w:World}{bs:Nat}{S:Sit}
include HA
theorem VS(h:df Λ bs S w)(hF:S.aJ A)(hN:S.C.n=A.N){g:Nat}(hg:g<S.C.n)(VH:(S.bG.getD g []).length<=60)(hlc:∀c∈S.bG.getD g [],A.gc c):ag Tryz.prog 73 #[Ptt bs,.int .i64 g] w (λv w'=>∃lv sv rv,v=.agg #[lv,sv,rv]/\jV w' lv (S.bG.getD g [])/\zV w' sv (fB A (A.bg g S.C.n) (S.bG.getD g []) (S.bG.getD g []).length)/\(∃xs,w'.ownsRow 0 57 7 rv (S.bG.getD g []).length xs)/\GB none w w'):=by
 have jh:=hF.cl.n;have hgood:A.good 0 (A.bg g S.C.n):=HA.Co _ _ hN hg jh;obtain⟨bc,a,gv,sv0,B,ad,hS⟩:=h;obtain⟨be,hbe⟩:∃b,S.bG[g]? = some b:=⟨S.bG[g]'(by rw[hF.be];exact hg),by simp[hF.be,hg]⟩;obtain⟨bv,hbv⟩:∃b,a.bv[g]? = some b:=⟨a.bv[g]'(by rw[hS.si.bl,hF.be];exact hg),by simp[hS.si.bl,hF.be,hg]⟩;have Lj:S.bG.getD g []=be:=by rw[getD_eq_getElem?_getD,hbe];rfl
 rw[Lj]at VH hlc |-;have Lb0:=hS.si.bi _ _ _ hbe hbv;obtain⟨ba,kv,rfl⟩:∃a c,bv=.slice a be.length c:=by obtain⟨vs,v1,v2,v3⟩:=Lb0;exact af v2
 obtain⟨s0,hs0⟩:∃s0,s0=A.bg g S.C.n:=⟨_,rfl⟩;rw[<-hs0]at hgood |-;refine wu fD Tryz.func73 rfl rfl ?_;refine CS.piece (Q:=λq w1=>∃b4,q=[(0,Ptt bs),(1,.int .i64 g),(4,Ptt b4)]/\w1.heap[b4]? = some (.cells #[Ptz,Ptz,Ptz] 94)/\GB none w w1/\w.heap.size<=b4) (CS.e λw1 b4 m4 g1 l4=>⟨_,by exact⟨rfl,rfl,rfl,trivial⟩,b4,rfl,m4,g1,l4⟩) ?_;rintro _ w1 ⟨b4,rfl,m4,g1,l4⟩;have lt4:=ae m4;refine CS.piece (Q:=λq w3=>∃b5 v Z,q=[(0,Ptt bs),(1,.int .i64 g),(4,Ptt b4),(5,Ptt b5)]/\w3.heap[b5]? = some (.cells (kL s0 v).toArray 31)/\yQ w3 Z v s0/\(∀x,Z x->x<w3.heap.size/\w1.heap.size<=x)/\¬Z b5/\GB none w1 w3/\w1.heap.size<=b5) (CS.e ?_) ?_
 ·have abU:=HA.beg w1 g S.C.n hg jh
  rw[<-hs0]at abU;refine⟨_,_,(hS.au g1).si.mem,_,rfl,_,abU,?_⟩;rintro _ w2 ⟨T,M,D,O,I,e,rfl,hs,g2⟩;obtain⟨ta,tn,tc,ma,mn,mc,da,dn,dc,oa,on,oc,ia,il,ic,rfl,rfl,rfl,rfl,rfl⟩:=(hs _ λ_ _ _=>rfl).sl;intro w3 b5 m5 g3 l5;refine⟨_,_,_,m5,rfl,rfl,λw4 m4' g4=>?_⟩;have z2:=g2.size;have z3:=g3.size;have z4:=g4.size;refine⟨_,by exact⟨rfl,rfl,rfl,rfl,trivial⟩,b5,⟨_,_,_,_,_⟩,λx=>w1.heap.size<=x/\x<w2.heap.size,rfl,m4',λw' e=>hs w' λx h1 h2=>(e x ⟨h1,h2⟩).trans ((g4.block x (by omega) (λe=>by cases e;omega)).trans (g3.block x h2 nofun)),λx hx=>⟨by omega,hx.1⟩,λhx=>by omega,g2.trans (g3.new g4 l5),by omega⟩
 rintro _ w3 ⟨b5,vx,Z0,rfl,m5,hx0,Om,nZ5,g3,l5⟩;have uN:=ae m5;have z1:=g1.size;have z3:=g3.size;have h3:=hS.au (g1.trans g3);refine CS.piece (Q:=λq w5=>∃b7,q=[(4,Ptt b4),(5,Ptt b5),(7,Ptt b7)]/\Fo w w5 b4 b5 b7 (.slice ba be.length kv) Ptz Ptz [] 0 s0 Z0) (CS.e ?_) ?_
 ·obtain⟨gb,He,Qb,FU,zS,Jm,abx,aby⟩:=qw h3.si.be hbv
  refine⟨_,_,h3.si.mem,.slice (Pty gb) S.bG.length He,by show(fV _ _ _)[4]? = _;unfold fV;rw[FU];rfl,by omega,_,_,zS,.slice ba be.length kv,by show Qb.toList[0+(g:Int).toNat*1]? = _;rw[Nat.zero_add,Nat.mul_one,Int.toNat_natCast];exact Jm,?_⟩;intro w4 b7 m7 g4 l7;refine⟨_,_,_,m7,rfl,rfl,λw5 m7' g5=>?_⟩;have z4:=g4.size;have z5:=g5.size;have G5:GB none w3 w5:=g4.new g5 l7;refine⟨_,by exact⟨rfl,rfl,rfl,trivial⟩,b7,rfl,⟨G5.get (g3.get m4 nofun) nofun,⟨vx,G5.get m5 nofun,hx0.mono (λ_ h=>h) λx hx=>G5.block x (Om x hx).1 nofun⟩,m7',⟨[],rfl,dZ _ _ _,λi s x h=>by cases h⟩,⟨[],dZ _ _ _⟩,λx hx=>⟨by have:=(Om x hx).1;omega,by have:=(Om x hx).2;omega⟩,⟨l4,λhx=>by have:=(Om _ hx).2;omega⟩,⟨by omega,nZ5⟩,⟨by omega,λhx=>by have:=(Om _ hx).1;omega⟩,nofun,nofun,(g1.trans g3).trans G5,by omega⟩⟩
 rintro _ w5 ⟨b7,rfl,F5⟩;clear hx0 Om nZ5 m5 g3 l5 h3;have lb:∀{w':World},GB none w w'->jV w' (.slice ba be.length kv) be:=λg'=>(hS.au g').si.bi _ _ _ hbe hbv
 refine CS.piece (Q:=λq w8=>q=[(4,Ptt b4),(5,Ptt b5),(7,Ptt b7)]/\∃sv,Fo w w8 b4 b5 b7 (.slice ba be.length kv) sv Ptz [s0] 0 s0 Z0) (CS.e ?_) ?_
 ·obtain⟨v,x1,x2⟩:=F5.mx
  obtain⟨ta,tn,tc,ma,mn,mc,da,dn,dc,oa,on,oc,ia,il,ic,e1,e2,e3,e4,e5⟩:=(x2 w5 λ_ _=>rfl).sl;obtain⟨vT,vM,vD,vO,vI⟩:=v;dsimp only at e1 e2 e3 e4 e5;subst e1 e2 e3 e4 e5;refine⟨_,_,F5.mf,_,rfl,_,_,x1,kL s0 _,rfl,rfl,λw6 b6 m6 g6 l6=>?_⟩;have F6:=F5.gb g6;have x2:=x2.mono (Z':=Z0) (w':=w6) (λ_ q=>q) λx hx=>g6.block x (F5.zl x hx).1 nofun
  refine⟨_,kL s0 _,dZ w6 31 7,⟨_,_,m6,rfl,rfl,rfl⟩,by decide,λbX w7 oM g7 n7=>?_⟩;obtain⟨la,lc,rfl⟩:=af oM;refine⟨_,_,_,(g7.get F6.mf nofun),rfl,rfl,λw8 m8 g8=>?_⟩;exact⟨_,by exact⟨rfl,rfl,rfl,trivial⟩,rfl,_,F6.app x2 (vs:=[]) rfl (dZ _ _ _) (λi s x h=>by cases h) oM g7 n7 m8 g8⟩
 rintro _ w6 ⟨rfl,sv1,F6⟩;clear F5;refine CS.piece (Q:=λq w8=>q=[(4,Ptt b4),(7,Ptt b7)]/\∃sv rv Z,Fo w w8 b4 b5 b7 (.slice ba be.length kv) sv rv (fB A s0 be be.length) be.length (dY A s0 be) Z) ?_ ?_
 ·refine CS.piece (Q:=λq w'=>q=[(4,Ptt b4),(5,Ptt b5),(7,Ptt b7),(8,.int .i64 0)]/\w'=w6) (CS.e ⟨_,by exact⟨rfl,rfl,rfl,rfl,trivial⟩,rfl,rfl⟩) ?_
  rintro _ w6 ⟨rfl,rfl⟩;refine CS.block ?_;refine CS.loop (λm s w5=>∃(k:Nat) (sv rv:Value) (Z:Nat->Prop),m=be.length - k/\k<=be.length/\s=[(4,Ptt b4),(5,Ptt b5),(7,Ptt b7),(8,.int .i64 k)]/\Fo w w5 b4 b5 b7 (.slice ba be.length kv) sv rv (fB A s0 be k) k (dY A s0 (be.take k)) Z) ⟨_,_,⟨0,sv1,_,Z0,rfl,Nat.zero_le _,rfl,F6⟩,rfl,rfl,rfl,rfl,trivial⟩ ?_;clear F6;rintro m s w5 ⟨k,sv,rv,Z,rfl,hk,rfl,F⟩;refine CS.cut (Qn:=λq w'=>k<be.length/\q=[(4,Ptt b4),(5,Ptt b5),(7,Ptt b7),(8,.int .i64 k)]/\w'=w5) (Qx:=λj q w'=>j=0/\k=be.length/\q=[(4,Ptt b4),(7,Ptt b7)]/\w'=w5) (Qr:=λ_ _=>False) (CS.e ?_) ?_ ?_ (λ_ _ _ h _=>h.elim)
  ·refine⟨_,_,F.mf,_,rfl,aj (λc=>?_) (λc=>?_)⟩
   ·exact⟨_,by exact⟨rfl,rfl,rfl,rfl,trivial⟩,by have:=Ptq c;omega,rfl,rfl⟩
   ·exact⟨_,by exact⟨rfl,rfl,trivial⟩,rfl,by have:=Ptx c;omega,rfl,rfl⟩
  rotate_left
  ·rintro j q s w' ⟨rfl,rfl,rfl,rfl⟩ hs
   rw[take_length]at F;exact⟨_,hs,rfl,sv,rv,Z,F⟩
  rintro _ w5 ⟨d2,rfl,rfl⟩;obtain⟨c,hc⟩:∃c,be[k]? = some c:=⟨be[k],by simp[d2]⟩;have mQ:=zW HA hgood VH hlc k hk;have hgc:=hlc c (List.mem_of_getElem? hc);have ek:=Gb (A:=A) (s:=s0) hc;have est:=MS A s0 be k;rw[ek]at est;obtain⟨sk,hsk⟩:∃sk,sk=dY A s0 (be.take k):=⟨_,rfl⟩;rw[<-hsk]at mQ ek est F;obtain⟨s1,hs1⟩:∃s1,s1=(A.ap sk c).1:=⟨_,rfl⟩;rw[<-hs1]at ek est;obtain⟨jb,abV⟩:∃jb,jb=fB A s0 be k:=⟨_,rfl⟩;rw[<-abV]at F est;refine CS.piece (Q:=λq w'=>q=[(4,Ptt b4),(5,Ptt b5),(7,Ptt b7),(8,.int .i64 k)]/\∃sv rv Z,Fo w w' b4 b5 b7 (.slice ba be.length kv) sv rv (jb++[s1]) (k+1) s1 Z) ?_ ?_;rotate_left
  ·rintro _ w' ⟨rfl,bX,rv',Z',F'⟩
   refine CS.e ?_;exact⟨by omega,_,_,⟨k+1,bX,rv',Z',rfl,by omega,rfl,by rw[est,ek];exact F'⟩,⟨rfl,rfl,rfl,rfl,trivial⟩,by omega⟩
  refine CS.block ?_;obtain⟨vx,mx,shx⟩:=F.mx;have mf:=F.mf;obtain⟨gx,VI,Xh,Xi,ex,_,hcx,hex,hrx⟩:=(lb F.g).el hc;subst ex;have hcall:=λw' (g:GB none w5 w')=>HA.call w' sk c _ _ _ _ _ _ (show fG w' vx.T vx.M vx.D vx.O vx.I sk from shx w' λx hx=>g.block x (F.zl x hx).1 nofun) mQ ⟨_,_,rfl,hrx.kz g.kz⟩ hgc
  rw[<-hs1]at hcall;refine CS.piece (Q:=λq w8=>∃b9 b10 v Z' rc,q=[(4,Ptt b4),(5,Ptt b5),(7,Ptt b7),(8,.int .i64 k),(9,Ptt b9),(10,Ptt b10)]/\Fo w w8 b4 b5 b7 (.slice (Pty gx) be.length kv) sv rv jb k sk Z'/\w8.heap[b9]? = some (.cells (kL s1 v).toArray 31)/\yQ w8 Z' v s1/\w8.heap[b10]? = some (.cells (aA.cells rc).toArray 57)/\w5.heap.size<=b9) (CS.e ?_) ?_
  ·have fin:∀{vc v3:World} {T M D O I:Value} {b9 b10 s0:Nat},(∀w'':World,(∀x,s0<=x->x<vc.heap.size->w''.heap[x]? = vc.heap[x]?)->fG w'' T M D O I s1)->GB none vc v3->GB none w5 v3->w5.heap.size<=s0->(b9<s0\/vc.heap.size<=b9)->(b10<s0\/vc.heap.size<=b10)->w5.heap.size<=b9->(w5.heap.size<=b10/\b9≠b10)->∀{w7 w8:World},w7.heap[b9]? = some (.cells #[.int .u8 s1.g,.int .u8 s1.n,T,M,D,O,I] 31)->GB (some b9) v3 w7->w8.heap[b10]? = some (.cells (A.ap sk c).2.cells.toArray 57)->GB (some b10) w7 w8->∃b9' abX v Z' rc,([(4,Ptt b4),(5,Ptt b5),(7,Ptt b7),(8,.int .i64 k),(9,Ptt b9),(10,Ptt b10)]:Sg)=[(4,Ptt b4),(5,Ptt b5),(7,Ptt b7),(8,.int .i64 k),(9,Ptt b9'),(10,Ptt abX)]/\Fo w w8 b4 b5 b7 (.slice (Pty gx) be.length kv) sv rv jb k sk Z'/\w8.heap[b9']? = some (.cells (kL s1 v).toArray 31)/\yQ w8 Z' v s1/\w8.heap[abX]? = some (.cells (aA.cells rc).toArray 57)/\w5.heap.size<=b9':=λ{vc v3 T M D O I b9 b10 s0} hs kc G e0 e5 e6 l5 l6 w7 w8 m7 g7 m8 g8=>by
    have zc:=kc.size;have z7:=g7.size;have z8:=g8.size;exact⟨b9,b10,⟨T,M,D,O,I⟩,_,_,rfl,F.wide ((G.new g7 l5).new g8 l6.1) e0 (show vc.heap.size<=_ by omega),g8.get m7 (λe=>by cases e;exact l6.2 rfl),λw' e=>hs w' λx h1 h2=>(e x (.inr ⟨h1,h2⟩)).trans ((g8.block x (by omega) (λe=>by cases e;omega)).trans ((g7.block x (by omega) (λe=>by cases e;omega)).trans (kc.block x h2 nofun))),m8,l5⟩
   refine⟨by kernel_rfl,_,_,mx,kL sk vx,rfl,rfl,_,_,mf,_,rfl,by omega,_,_,hcx,dC c Xh Xi,by show aK VI.toList (0+(k:Int).toNat*17) 17=_;rw[Nat.zero_add,Int.toNat_natCast];exact hex,rfl,?_⟩;refine⟨⟨_,hcall w5 (GB.refl _ _),?_⟩,?_,?_⟩
   ·rintro _ v1 ⟨T,M,D,O,I,rfl,hs,K1⟩
    have G1:GB none w5 v1:=K1;obtain⟨ta,tn,tc,ma,mn,mc,da,dn,dc,oa,on,oc,ia,il,ic,rfl,rfl,rfl,rfl,rfl⟩:=(hs _ λ_ _ _=>rfl).sl;have z1:=K1.size;refine⟨?_,?_⟩
    ·intro v2 b5 m5 K2 L5
     have G2:GB none w5 v2:=G1.trans K2;have l5:w5.heap.size<=b5:=Nat.le_trans G1.size L5;have uN:=ae m5;have z2:=K2.size;refine⟨⟨G2.get hcx nofun,G2.get mf nofun,G2.get mx nofun,trivial⟩,?_⟩;intro v3 b6 m6 K3 L6;have G3:GB none w5 v3:=G2.trans K3;have l6:w5.heap.size<=b6:=Nat.le_trans G2.size L6;have wz:=ae m6;have uN:=ae m5;have m5:=K3.get m5 nofun;have z3:=K3.size;refine⟨⟨G3.get hcx nofun,G3.get mf nofun,G3.get mx nofun,trivial⟩,?_⟩;exact⟨_,_,_,m5,rfl,rfl,λw7 m7 g7=>⟨_,_,_,g7.get m6 (λe=>by cases e;omega),rfl,rfl,λw8 m8 g8=>⟨_,by exact⟨rfl,rfl,rfl,rfl,rfl,rfl,trivial⟩,fin (vc:=v1) (s0:=w5.heap.size) hs (K2.trans K3) G3 (by omega) (by omega) (by omega) l5 (by omega) m7 g7 m8 g8⟩⟩⟩
    ·intro v2 b6 m6 K2 L6
     have G2:GB none w5 v2:=G1.trans K2;have l6:w5.heap.size<=b6:=Nat.le_trans G1.size L6;have wz:=ae m6;have z2:=K2.size;refine⟨⟨G2.get hcx nofun,G2.get mf nofun,G2.get mx nofun,trivial⟩,?_⟩;intro v3 b5 m5 K3 L5;have G3:GB none w5 v3:=G2.trans K3;have l5:w5.heap.size<=b5:=Nat.le_trans G2.size L5;have uN:=ae m5;have wz:=ae m6;have m6:=K3.get m6 nofun;have z3:=K3.size;refine⟨⟨G3.get hcx nofun,G3.get mf nofun,G3.get mx nofun,trivial⟩,?_⟩;exact⟨_,_,_,m5,rfl,rfl,λw7 m7 g7=>⟨_,_,_,g7.get m6 (λe=>by cases e;omega),rfl,rfl,λw8 m8 g8=>⟨_,by exact⟨rfl,rfl,rfl,rfl,rfl,rfl,trivial⟩,fin (vc:=v1) (s0:=w5.heap.size) hs (K2.trans K3) G3 (by omega) (by omega) (by omega) l5 (by omega) m7 g7 m8 g8⟩⟩⟩
   ·intro v1 b5 m5 K1 L5
    have G1:GB none w5 v1:=K1;have l5:w5.heap.size<=b5:=L5;have uN:=ae m5;have z1:=K1.size;refine⟨⟨G1.get hcx nofun,G1.get mf nofun,G1.get mx nofun,trivial⟩,?_⟩;refine⟨⟨_,hcall v1 G1,?_⟩,?_⟩
    ·rintro _ v2 ⟨T,M,D,O,I,rfl,hs,K2⟩
     have G2:GB none w5 v2:=G1.trans K2;obtain⟨ta,tn,tc,ma,mn,mc,da,dn,dc,oa,on,oc,ia,il,ic,rfl,rfl,rfl,rfl,rfl⟩:=(hs _ λ_ _ _=>rfl).sl;have z2:=K2.size;have m5:=K2.get m5 nofun;intro v3 b6 m6 K3 L6;have G3:GB none w5 v3:=G2.trans K3;have l6:w5.heap.size<=b6:=Nat.le_trans G2.size L6;have wz:=ae m6;have uN:=ae m5;have m5:=K3.get m5 nofun;have z3:=K3.size;refine⟨⟨G3.get hcx nofun,G3.get mf nofun,G3.get mx nofun,trivial⟩,?_⟩;exact⟨_,_,_,m5,rfl,rfl,λw7 m7 g7=>⟨_,_,_,g7.get m6 (λe=>by cases e;omega),rfl,rfl,λw8 m8 g8=>⟨_,by exact⟨rfl,rfl,rfl,rfl,rfl,rfl,trivial⟩,fin (vc:=v2) (s0:=v1.heap.size) hs K3 G3 (by omega) (by omega) (by omega) l5 (by omega) m7 g7 m8 g8⟩⟩⟩
    ·intro v2 b6 m6 K2 L6
     have G2:GB none w5 v2:=G1.trans K2;have l6:w5.heap.size<=b6:=Nat.le_trans G1.size L6;have wz:=ae m6;have uN:=ae m5;have m5:=K2.get m5 nofun;have z2:=K2.size;refine⟨⟨G2.get hcx nofun,G2.get mf nofun,G2.get mx nofun,trivial⟩,?_⟩;refine⟨_,hcall v2 G2,?_⟩;rintro _ v3 ⟨T,M,D,O,I,rfl,hs,K3⟩;have G3:GB none w5 v3:=G2.trans K3;obtain⟨ta,tn,tc,ma,mn,mc,da,dn,dc,oa,on,oc,ia,il,ic,rfl,rfl,rfl,rfl,rfl⟩:=(hs _ λ_ _ _=>rfl).sl;have z3:=K3.size;have m5:=K3.get m5 nofun;have m6:=K3.get m6 nofun;exact⟨_,_,_,m5,rfl,rfl,λw7 m7 g7=>⟨_,_,_,g7.get m6 (λe=>by cases e;omega),rfl,rfl,λw8 m8 g8=>⟨_,by exact⟨rfl,rfl,rfl,rfl,rfl,rfl,trivial⟩,fin (vc:=v3) (s0:=v2.heap.size) hs (GB.refl _ _) G3 (by omega) (by omega) (by omega) l5 (by omega) m7 g7 m8 g8⟩⟩⟩
   ·intro v1 b6 m6 K1 L6
    have G1:GB none w5 v1:=K1;have l6:w5.heap.size<=b6:=L6;have wz:=ae m6;have z1:=K1.size;refine⟨⟨G1.get hcx nofun,G1.get mf nofun,G1.get mx nofun,trivial⟩,?_⟩;refine⟨⟨_,hcall v1 G1,?_⟩,?_⟩
    ·rintro _ v2 ⟨T,M,D,O,I,rfl,hs,K2⟩
     have G2:GB none w5 v2:=G1.trans K2;obtain⟨ta,tn,tc,ma,mn,mc,da,dn,dc,oa,on,oc,ia,il,ic,rfl,rfl,rfl,rfl,rfl⟩:=(hs _ λ_ _ _=>rfl).sl;have z2:=K2.size;have m6:=K2.get m6 nofun;intro v3 b5 m5 K3 L5;have G3:GB none w5 v3:=G2.trans K3;have l5:w5.heap.size<=b5:=Nat.le_trans G2.size L5;have uN:=ae m5;have wz:=ae m6;have m6:=K3.get m6 nofun;have z3:=K3.size;refine⟨⟨G3.get hcx nofun,G3.get mf nofun,G3.get mx nofun,trivial⟩,?_⟩;exact⟨_,_,_,m5,rfl,rfl,λw7 m7 g7=>⟨_,_,_,g7.get m6 (λe=>by cases e;omega),rfl,rfl,λw8 m8 g8=>⟨_,by exact⟨rfl,rfl,rfl,rfl,rfl,rfl,trivial⟩,fin (vc:=v2) (s0:=v1.heap.size) hs K3 G3 (by omega) (by omega) (by omega) l5 (by omega) m7 g7 m8 g8⟩⟩⟩
    ·intro v2 b5 m5 K2 L5
     have G2:GB none w5 v2:=G1.trans K2;have l5:w5.heap.size<=b5:=Nat.le_trans G1.size L5;have uN:=ae m5;have wz:=ae m6;have m6:=K2.get m6 nofun;have z2:=K2.size;refine⟨⟨G2.get hcx nofun,G2.get mf nofun,G2.get mx nofun,trivial⟩,?_⟩;refine⟨_,hcall v2 G2,?_⟩;rintro _ v3 ⟨T,M,D,O,I,rfl,hs,K3⟩;have G3:GB none w5 v3:=G2.trans K3;obtain⟨ta,tn,tc,ma,mn,mc,da,dn,dc,oa,on,oc,ia,il,ic,rfl,rfl,rfl,rfl,rfl⟩:=(hs _ λ_ _ _=>rfl).sl;have z3:=K3.size;have m5:=K3.get m5 nofun;have m6:=K3.get m6 nofun;exact⟨_,_,_,m5,rfl,rfl,λw7 m7 g7=>⟨_,_,_,g7.get m6 (λe=>by cases e;omega),rfl,rfl,λw8 m8 g8=>⟨_,by exact⟨rfl,rfl,rfl,rfl,rfl,rfl,trivial⟩,fin (vc:=v3) (s0:=v2.heap.size) hs (GB.refl _ _) G3 (by omega) (by omega) (by omega) l5 (by omega) m7 g7 m8 g8⟩⟩⟩
  rintro _ w8 ⟨b9,b10,v,Z',rc,rfl,F8,m9,Xu,m10,l9⟩;obtain⟨ta,tn,tc,ma,mn,mc,da,dn,dc,oa,on,oc,ia,il,ic,e1,e2,e3,e4,e5⟩:=(Xu w8 λ_ _=>rfl).sl;obtain⟨vT,vM,vD,vO,vI⟩:=v;dsimp only at e1 e2 e3 e4 e5;subst e1 e2 e3 e4 e5;obtain⟨v,hv⟩:∃v:V5,v=⟨.slice ta tn tc,.slice ma mn mc,.slice da dn dc,.slice oa on oc,.slice ia il ic⟩:=⟨_,rfl⟩;have afC:(kL s1 v).all one=true:=by rw[hv];rfl
  rw[<-hv]at m9 Xu;have ns9:∀x,sv.ownBlock=some x->x≠b9:=λx hx e=>by obtain⟨_,_,t2,_⟩:=F.st;obtain⟨c,hc⟩:=ax t2 hx;have:=ae hc;omega
  obtain⟨vs,t1,t2,t3⟩:=F8.st;obtain⟨sa,Qj,rfl⟩:=af t2;refine CS.piece (Q:=λq w'=>∃bX,q=[(4,Ptt b4),(5,Ptt b5),(7,Ptt b7),(8,.int .i64 k),(9,Ptt b9),(10,Ptt b10)]/\Fo w w' b4 b5 b7 (.slice (Pty gx) be.length kv) bX rv (jb++[s1]) k sk Z'/\w'.heap[b9]? = some (.cells (kL s1 v).toArray 31)/\yQ w' Z' v s1/\w'.heap[b10]? = some (.cells (aA.cells rc).toArray 57)) (CS.e ?_) ?_
  ·refine⟨_,_,F8.mf,_,rfl,_,_,m9,kL s1 v,rfl,rfl,λw6 b6 m6 g6 l6=>?_⟩
   have F6:=F8.gb g6;have kz:∀x,Z' x->w6.heap[x]? = w8.heap[x]?:=λx hx=>g6.block x (F8.zl x hx).1 nofun
   have t2':=ay t2 λx hx=>by obtain⟨c,hc⟩:=ax t2 hx;exact g6.block x (ae hc) nofun
   have hlen:jb.length=k+1:=by rw[abV];simp[fB]
   refine⟨_,kL s1 v,t2',⟨_,_,m6,rfl,rfl,afC⟩,by omega,λbX w7 oM g7 n7=>?_⟩;obtain⟨la,lc,rfl⟩:=af oM;have nf:(Value.slice sa jb.length Qj).ownBlock≠some b7:=λe=>by obtain⟨c,hc⟩:=ax t2' e;exact iy F6.mf hc (by decide) rfl
   have n9:(Value.slice sa jb.length Qj).ownBlock≠some b9:=λe=>ns9 _ e rfl
   have n10:(Value.slice sa jb.length Qj).ownBlock≠some b10:=λe=>by obtain⟨c,hc⟩:=ax t2 e;exact iy m10 hc (by decide) rfl
   refine⟨_,_,_,(g7.get F6.mf nf.symm),rfl,rfl,λw9 TA g9=>?_⟩;have F9:=F6.app (Xu.mono (λ_ q=>q) kz) t1 t2' (λi s x a b=>(t3 i s x a b).mono (λ_ q=>q) kz) oM g7 n7 TA g9;have x9:w9.heap[b9]? = some (.cells (kL s1 v).toArray 31):=g9.get (g7.get (g6.get m9 nofun) n9.symm) λe=>by cases e;exact iy F8.mf m9 (by decide) rfl
   have nD:w9.heap[b10]? = _:=g9.get (g7.get (g6.get m10 nofun) n10.symm) λe=>by cases e;exact iy F8.mf m10 (by decide) rfl
   exact⟨_,by exact⟨rfl,rfl,rfl,rfl,rfl,rfl,trivial⟩,_,rfl,F9,x9,Xu.mono (λ_ q=>q) λx hx=>(g9.block x (Nat.lt_of_lt_of_le (F6.zl x hx).1 g7.size) (λe=>by cases e;exact F6.n7.2 hx)).trans ((g7.block x (F6.zl x hx).1 (λe=>(F6.ns x e.symm).2.1 hx)).trans (kz x hx)),nD⟩
  rintro _ w9 ⟨bX,rfl,F9,TA,afD,afE⟩;obtain⟨xs,r1⟩:=F9.rp;obtain⟨ra,VT,rfl⟩:=af r1;obtain⟨_,_,t9,_⟩:=F9.st;obtain⟨sa',ade,rfl⟩:=af t9;refine CS.piece (Q:=λq w'=>∃rv',q=[(4,Ptt b4),(5,Ptt b5),(7,Ptt b7),(8,.int .i64 k),(9,Ptt b9)]/\Fo w w' b4 b5 b7 (.slice (Pty gx) be.length kv) (.slice sa' (jb++[s1]).length ade) rv' (jb++[s1]) (k+1) sk Z'/\w'.heap[b9]? = some (.cells (kL s1 v).toArray 31)/\yQ w' Z' v s1) (CS.e ?_) ?_
  ·refine⟨_,_,F9.mf,_,rfl,_,_,afE,aA.cells rc,rfl,rfl,λw6 b6 m6 g6 l6=>?_⟩
   have F6:=F9.gb g6;have kz:∀x,Z' x->w6.heap[x]? = w9.heap[x]?:=λx hx=>g6.block x (F9.zl x hx).1 nofun
   have r1':=ay r1 λx hx=>by obtain⟨c,hc⟩:=ax r1 hx;exact g6.block x (ae hc) nofun
   refine⟨_,aA.cells rc,r1',⟨_,_,m6,rfl,rfl,rfl⟩,by omega,λrv' w7 oM g7 n7=>?_⟩;obtain⟨la,lc,rfl⟩:=af oM;have nf:(Value.slice ra k VT).ownBlock≠some b7:=λe=>by obtain⟨c,hc⟩:=ax r1' e;exact iy F6.mf hc (by decide) rfl
   have n9:(Value.slice ra k VT).ownBlock≠some b9:=λe=>by obtain⟨c,hc⟩:=ax r1 e;exact iy TA hc (by decide) rfl
   refine⟨_,_,_,(g7.get F6.mf nf.symm),rfl,rfl,λoN m11 g10=>?_⟩;exact⟨_,by exact⟨rfl,rfl,rfl,rfl,rfl,trivial⟩,_,rfl,F6.rep r1' oM g7 n7 m11 g10,g10.get (g7.get (g6.get TA nofun) n9.symm) (λe=>by cases e;exact iy F9.mf TA (by decide) rfl),afD.mono (λ_ q=>q) λx hx=>(g10.block x (Nat.lt_of_lt_of_le (F6.zl x hx).1 g7.size) (λe=>by cases e;exact F6.n7.2 hx)).trans ((g7.block x (F6.zl x hx).1 (λe=>(F6.Gc x e.symm).2 hx)).trans (kz x hx))⟩
  rintro _ oN ⟨rv',rfl,F10,afF,adf⟩;obtain⟨vx',mx',afG⟩:=F10.mx;obtain⟨ua,un,uc,pa,pn,pc',qa,qn,qc,oa',on',oc',ia',il',ic',e1,e2,e3,e4,e5⟩:=(afG oN λ_ _=>rfl).sl;obtain⟨vT,vM,vD,vO,vI⟩:=vx';dsimp only at e1 e2 e3 e4 e5;subst e1 e2 e3 e4 e5 hv;refine CS.e ?_;refine⟨_,_,afF,_,rfl,rfl,?_⟩;refine⟨_,_,_,mx',rfl,rfl,λDn m11 g11=>?_⟩;exact⟨_,by exact⟨rfl,rfl,rfl,rfl,trivial⟩,rfl,_,_,_,F10.now adf m11 g11⟩
 rintro _ w8 ⟨rfl,sv,rv,Z,F⟩;obtain⟨vs,s1,s2,s3⟩:=F.st;obtain⟨xs,r1⟩:=F.rp;obtain⟨sa,Qj,rfl⟩:=af s2;obtain⟨ra,VT,rfl⟩:=af r1;refine CS.e ?_;refine⟨_,_,F.mf,_,rfl,rfl,_,_,_,F.m4,rfl,rfl,λw9 m9 g9=>?_⟩;have G9:GB none w w9:=F.g.new g9 F.n4.1;have nb:∀{x:Nat} {c:Array Value} {u:TypeId},w8.heap[x]? = some (.cells c u)->u≠94->w9.heap[x]? = w8.heap[x]?:=λ{x c u} hx hu=>g9.block x (ae hx) λe=>by cases e;exact iy hx F.m4 hu rfl
 refine⟨_,_,m9,_,rfl,rfl,_,_,_,rfl,lb G9,⟨vs,s1,ay s2 λx hx=>by obtain⟨c,hc⟩:=ax s2 hx;exact nb hc (by decide),λi s x a b=>s3 i s x a b w9 λy hy=>g9.block y (F.zl y hy).1 λe=>by cases e;exact F.n4.2 hy⟩,⟨xs,ay r1 λx hx=>by obtain⟨c,hc⟩:=ax r1 hx;exact nb hc (by decide)⟩,G9⟩
end
end
