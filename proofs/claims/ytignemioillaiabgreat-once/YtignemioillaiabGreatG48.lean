/- Lemmas. -/
import Derived.Test.YtignemioillaiabGreatG47
namespace Go.Proofs.YtignemioillaiabGreat
set_option maxHeartbeats 8000000
set_option maxRecDepth 100000
open List
section
open Go Go.Conc
structure V5 where
 (T M D O I:Value)
def kU(s:St)(v:V5):List Value:=[.int .u8 s.g,.int .u8 s.n,v.T,v.M,v.D,v.O,v.I]
def ShAt(w:World)(v:V5)(s:St):Prop:=fE w v.T v.M v.D v.O v.I s
def zH(w:World)(Z:Nat->Prop)(v:V5)(s:St):Prop:=∀w':World,(∀x,Z x->w'.heap[x]?=w.heap[x]?)->ShAt w' v s
theorem zH.mono{w w':World}{Z Z':Nat->Prop}{v:V5}{s:St}(h:zH w Z v s)(hz:∀x,Z x->Z' x)(hw:∀x,Z x->w'.heap[x]?=w.heap[x]?):zH w' Z' v s:=λw'' e=>h w'' λx hx=>(e x (hz x hx)).trans (hw x hx)
def vZ(w:World)(v:Value)(l:List St):Prop:=∃vs:List V5,vs.length=l.length/\w.ownsRow 0 55 7 v l.length (zipWith kU l vs).flatten/\∀(i:Nat) (s:St) (x:V5),l[i]?=some s->vs[i]?=some x->ShAt w x s
def cK(A:aI)(s:St)(l:List MC)(k:Nat):List St:=(List.range (k+1)).map λj=>bR A s (l.take j)
theorem Oo(A:aI)(s:St)(l:List MC)(k:Nat):cK A s l (k+1)=cK A s l k++[bR A s (l.take (k+1))]:=by unfold cK;rw[Jc2,Jda];rfl
theorem De(A:aI)(s:St)(l:List MC){k j:Nat}(h:j<=k):(cK A s l k)[j]?=some (bR A s (l.take j)):=by
 unfold cK;rw[Jdd,getElem?_range (by omega)];rfl
def dW(A:aI)(s:St)(l:List MC)(k:Nat):List ag:=(List.range k).map λj=>(A.ap (bR A s (l.take j)) (l.getD j nu)).2
theorem Vi(A:aI)(s:St){l:List MC}{k:Nat}{c:MC}(h:l[k]?=some c):dW A s l (k+1)=dW A s l k++[(A.ap (bR A s (l.take k)) c).2]:=by
 unfold dW;rw[Jc2,Jda,List.map_singleton,Jdx,h];rfl
theorem H6{A:aI}{s:St}{l:List MC}{k:Nat}{c:MC}(h:l[k]?=some c):bR A s (l.take (k+1))=(A.ap (bR A s (l.take k)) c).1:=by
 unfold bR;rw[Jfm,h,Jg4];rfl
theorem wo{A:aI}(HA:bG A){s:St}(h0:A.good 0 s){l:List MC}(hl:l.length<=60)(hc:∀c∈l,A.gc c):∀k,k<=l.length->A.good k (bR A s (l.take k))
 |0,_=>h0
 |k+1,hk=>by
  obtain⟨c,e⟩:∃c,l[k]?=some c:=⟨l[k],by simp[show k<l.length from hk]⟩;rw[H6 e];exact HA.Kr _ _ (by omega) (wo HA h0 hl hc k (by omega)) (hc c (Jcv e))
structure Fo(W w:World)(b4 b5 b7:Nat)(lv sv rv:Value)(gI:List St)(nr:List ag)(sx:St)(Z:Nat->Prop):Prop where
 m4:w.heap[b4]?=some (.cells #[Ptz,Ptz,Ptz] 102)
 mx:∃v:V5,Hl w b5 (kU sx v) 55/\zH w Z v sx
 mf:w.heap[b7]?=some (.cells #[lv,sv,rv] 102)
 st:∃vs:List V5,vs.length=gI.length/\w.ownsRow 0 55 7 sv gI.length (zipWith kU gI vs).flatten/\∀(i:Nat) (s:St) (x:V5),gI[i]?=some s->vs[i]?=some x->zH w Z x s
 rp:w.ownsRow 0 70 7 rv nr.length (nr.map ag.cells).flatten
 zl:∀x,Z x->x<w.heap.size/\W.heap.size<=x
 n4:W.heap.size<=b4/\¬Z b4
 n5:W.heap.size<=b5/\¬Z b5
 n7:W.heap.size<=b7/\¬Z b7
 ns:∀x,sv.ownBlock=some x->W.heap.size<=x/\¬Z x/\x≠b5
 H7:∀x,rv.ownBlock=some x->W.heap.size<=x/\¬Z x
 g:GB none W w
 ne:b4≠b7
abbrev S8(b4 b5 b7 k:Nat)(t:Sg):Sg:=(4,Ptt b4)::(5,Ptt b5)::(7,Ptt b7)::(8,.int .i64 k)::t
section
variable{W w w' w6 w7 w8:World}{b4 b5 b7:Nat}{lv sv rv bX rv':Value}{gI:List St}{nr:List ag}{sx:St}{Z:Nat->Prop}
theorem Fo.gb(h:Fo W w b4 b5 b7 lv sv rv gI nr sx Z)(g:GB none w w'):Fo W w' b4 b5 b7 lv sv rv gI nr sx Z:=by
 obtain⟨v,x1,x2⟩:=h.mx;obtain⟨vs,s1,s2,s3⟩:=h.st;have r1:=h.rp;have hz:∀x,Z x->w'.heap[x]?=w.heap[x]?:=λx hx=>g.block x (h.zl x hx).1 nofun
 exact⟨g.get h.m4 nofun,⟨v,g.get x1 nofun,x2.mono (λ_ q=>q) hz⟩,g.get h.mf nofun,⟨vs,s1,ax s2 λx hx=>by obtain⟨c,hc⟩:=au s2 hx;exact g.block x (ae hc) nofun,λi s x a b=>(s3 i s x a b).mono (λ_ q=>q) hz⟩,ax r1 (λx hx=>by obtain⟨c,hc⟩:=au r1 hx;exact g.block x (ae hc) nofun),λx hx=>⟨Jbz (h.zl x hx).1 g.size,(h.zl x hx).2⟩,h.n4,h.n5,h.n7,h.ns,h.H7,h.g.trans g,h.ne⟩
theorem Fo.wide(h:Fo W w b4 b5 b7 lv sv rv gI nr sx Z)(g:GB none w w'){lo hi:Nat}(hlo:w.heap.size<=lo)(hhi:hi<=w'.heap.size):Fo W w' b4 b5 b7 lv sv rv gI nr sx λx=>Z x\/lo<=x/\x<hi:=by
 have h':=h.gb g;obtain⟨v,x1,x2⟩:=h'.mx;obtain⟨vs,s1,s2,s3⟩:=h'.st;obtain⟨_,x0,_⟩:=h.mx;obtain⟨_,_,t2,_⟩:=h.st;have r1:=h.rp;have lt:∀{x:Nat},x<w.heap.size->¬Z x->¬(Z x\/lo<=x/\x<hi):=λ{x} hx hz=>by rintro(q|q);exact hz q;omega
 exact⟨h'.m4,⟨v,x1,x2.mono (λ_ q=>.inl q) λ_ _=>rfl⟩,h'.mf,⟨vs,s1,s2,λi s x a b=>(s3 i s x a b).mono (λ_ q=>.inl q) λ_ _=>rfl⟩,h'.rp,λx hx=>by
  rcases hx with q|q
  .exact h'.zl x q
  .have:=h.g.size;omega,⟨h.n4.1,lt (ae h.m4) h.n4.2⟩,⟨h.n5.1,lt (ae x0) h.n5.2⟩,⟨h.n7.1,lt (ae h.mf) h.n7.2⟩,λx hx=>⟨(h.ns x hx).1,lt (by obtain⟨c,hc⟩:=au t2 hx;exact ae hc) (h.ns x hx).2.1,(h.ns x hx).2.2⟩,λx hx=>⟨(h.H7 x hx).1,lt (by obtain⟨c,hc⟩:=au r1 hx;exact ae hc) (h.H7 x hx).2⟩,h'.g,h.ne⟩
theorem gJ{w:World}{x y:Nat}{c d:Array Value}{t u:TypeId}(h:w.heap[x]?=some (.cells c t))(k:w.heap[y]?=some (.cells d u))(n:t≠u):x≠y:=λe=>by subst e;rw[h]at k;injection k with k;injection k with _ k;exact n k
theorem Fo.app(h:Fo W w b4 b5 b7 lv sv rv gI nr sx Z){s:St}{v:V5}(hv:zH w Z v s){vs:List V5}(s1:vs.length=gI.length)(s2:w.ownsRow 0 55 7 sv gI.length (zipWith kU gI vs).flatten)(s3:∀(i:Nat) (s:St) (x:V5),gI[i]?=some s->vs[i]?=some x->zH w Z x s)(ho:w7.ownsRow 0 55 7 bX (gI.length+1) ((zipWith kU gI vs).flatten++kU s v))(g7:GB sv.ownBlock w w7)(n7:∀x,bX.ownBlock=some x->sv.ownBlock=some x\/w.heap.size<=x)(m8:w8.heap[b7]?=some (.cells #[lv,bX,rv] 102))(g8:GB (some b7) w7 w8):Fo W w8 b4 b5 b7 lv bX rv (gI++[s]) nr sx Z:=by
 obtain⟨vx,x1,x2⟩:=h.mx;have r1:=h.rp;have z7:=g7.size;have no:∀{x:Nat} {c:Array Value} {u:TypeId},w.heap[x]?=some (.cells c u)->u≠55->sv.ownBlock≠some x:=λ{x c u} hx hu e=>by obtain⟨c',hc⟩:=au s2 e;exact gJ hx hc hu rfl
 have kp:∀x,x<w.heap.size->sv.ownBlock≠some x->x≠b7->w8.heap[x]?=w.heap[x]?:=λx hx a b=>(g8.block x (by omega) λe=>b (Jbm e)).trans (g7.block x hx λe=>a e.symm)
 have hz:∀x,Z x->w8.heap[x]?=w.heap[x]?:=λx hx=>kp x (h.zl x hx).1 (λe=>(h.ns x e).2.1 hx) λe=>h.n7.2 (e▸hx)
 obtain⟨c9,h9⟩:∃c,w7.heap[b7]?=some (.cells c 102):=⟨_,g7.get h.mf (no h.mf (by decide)).symm⟩;have ob:∀x,bX.ownBlock=some x->w8.heap[x]?=w7.heap[x]?:=λx hx=>by
  obtain⟨c,hc⟩:=au ho hx;exact g8.block x (ae hc) λe=>by cases e;exact gJ hc h9 (by decide) rfl
 refine⟨?_,⟨vx,?_,x2.mono (λ_ q=>q) hz⟩,m8,⟨vs++[v],by simp[s1],?_,λi s' x a b=>?_⟩,ax r1 (λx hx=>?_),λx hx=>⟨?_,(h.zl x hx).2⟩,h.n4,h.n5,h.n7,λx hx=>?_,h.H7,?_,h.ne⟩
 .rw[kp b4 (ae h.m4) (no h.m4 (by decide)) h.ne];exact h.m4
 .rw[Hl,kp b5 (ae x1) (λe=>(h.ns _ e).2.2 rfl) (gJ x1 h.mf (by decide))];exact x1
 .rw[Jc6,zipWith_append (by rw[s1]),Jfr]
  refine ax ?_ ob;simpa using ho
 .rw[Jgw]at a b
  rw[s1]at b;split at a
  .rename_i lt
   rw[Jb6 lt]at b;exact(s3 i s' x a b).mono (λ_ q=>q) hz
  .rename_i lt
   rw[Jb5 lt]at b;have:i=gI.length:=by have:=(Jcn.1 a).1;simp at this;omega
   subst this;simp at a b;subst a b;exact hv.mono (λ_ q=>q) hz
 .obtain⟨c,hc⟩:=au r1 hx
  exact kp x (ae hc) (no hc (by decide)) (gJ hc h.mf (by decide))
 .have:=(h.zl x hx).1;have:=g8.size;omega
 .rcases n7 x hx with q|q
  .exact h.ns x q
  .exact⟨by have:=h.g.size;omega,λhz=>by have:=(h.zl x hz).1;omega,λe=>by have:=ae x1;omega⟩
 .refine⟨g8.os.trans (g7.os.trans h.g.os),g8.out.trans (g7.out.trans h.g.out),by have:=h.g.size;have:=g8.size;omega,λx hx _=>?_⟩
  have:=h.g.size;exact(kp x (by omega) (λe=>by have:=(h.ns x e).1;omega) (λe=>by have:=h.n7.1;omega)).trans (h.g.block x hx nofun)
theorem Fo.rep(h:Fo W w b4 b5 b7 lv sv rv gI nr sx Z){p:ag}(r1:w.ownsRow 0 70 7 rv nr.length (nr.map ag.cells).flatten)(ho:w7.ownsRow 0 70 7 rv' (nr++[p]).length ((nr++[p]).map ag.cells).flatten)(g7:GB rv.ownBlock w w7)(n7:∀x,rv'.ownBlock=some x->rv.ownBlock=some x\/w.heap.size<=x)(m8:w8.heap[b7]?=some (.cells #[lv,sv,rv'] 102))(g8:GB (some b7) w7 w8):Fo W w8 b4 b5 b7 lv sv rv' gI (nr++[p]) sx Z:=by
 obtain⟨vx,x1,x2⟩:=h.mx;obtain⟨vs,s1,s2,s3⟩:=h.st;have z7:=g7.size;have no:∀{x:Nat} {c:Array Value} {u:TypeId},w.heap[x]?=some (.cells c u)->u≠70->rv.ownBlock≠some x:=λ{x c u} hx hu e=>by obtain⟨c',hc⟩:=au r1 e;exact gJ hx hc hu rfl
 have kp:∀x,x<w.heap.size->rv.ownBlock≠some x->x≠b7->w8.heap[x]?=w.heap[x]?:=λx hx a b=>(g8.block x (by omega) λe=>b (Jbm e)).trans (g7.block x hx λe=>a e.symm)
 have hz:∀x,Z x->w8.heap[x]?=w.heap[x]?:=λx hx=>kp x (h.zl x hx).1 (λe=>(h.H7 x e).2 hx) λe=>h.n7.2 (e▸hx)
 obtain⟨c9,h9⟩:∃c,w7.heap[b7]?=some (.cells c 102):=⟨_,g7.get h.mf (no h.mf (by decide)).symm⟩;refine⟨?_,⟨vx,?_,x2.mono (λ_ q=>q) hz⟩,m8,⟨vs,s1,ax s2 λx hx=>?_,λi s' x a b=>(s3 i s' x a b).mono (λ_ q=>q) hz⟩,ax ho λx hx=>?_,λx hx=>⟨?_,(h.zl x hx).2⟩,h.n4,h.n5,h.n7,h.ns,λx hx=>?_,?_,h.ne⟩
 .rw[kp b4 (ae h.m4) (no h.m4 (by decide)) h.ne];exact h.m4
 .rw[Hl,kp b5 (ae x1) (no x1 (by decide)) (gJ x1 h.mf (by decide))];exact x1
 .obtain⟨c,hc⟩:=au s2 hx
  exact kp x (ae hc) (no hc (by decide)) (gJ hc h.mf (by decide))
 .obtain⟨c,hc⟩:=au ho hx
  exact g8.block x (ae hc) λe=>by cases e;exact gJ hc h9 (by decide) rfl
 .have:=(h.zl x hx).1;have:=g8.size;omega
 .rcases n7 x hx with q|q
  .exact h.H7 x q
  .exact⟨by have:=h.g.size;omega,λhz=>by have:=(h.zl x hz).1;omega⟩
 .refine⟨g8.os.trans (g7.os.trans h.g.os),g8.out.trans (g7.out.trans h.g.out),by have:=h.g.size;have:=g8.size;omega,λx hx _=>?_⟩
  have:=h.g.size;exact(kp x (by omega) (λe=>by have:=(h.H7 x e).1;omega) (λe=>by have:=h.n7.1;omega)).trans (h.g.block x hx nofun)
theorem Fo.now(h:Fo W w b4 b5 b7 lv sv rv gI nr sx Z){s:St}{v:V5}(hv:zH w Z v s)(m8:Hl w8 b5 (kU s v) 55)(g8:GB (some b5) w w8):Fo W w8 b4 b5 b7 lv sv rv gI nr s Z:=by
 obtain⟨vx,x1,x2⟩:=h.mx;obtain⟨vs,s1,s2,s3⟩:=h.st;have r1:=h.rp;have kp:∀x,x<w.heap.size->x≠b5->w8.heap[x]?=w.heap[x]?:=λx hx b=>g8.block x hx λe=>b (Jbm e)
 have hz:∀x,Z x->w8.heap[x]?=w.heap[x]?:=λx hx=>kp x (h.zl x hx).1 λe=>h.n5.2 (e▸hx)
 refine⟨?_,⟨v,m8,hv.mono (λ_ q=>q) hz⟩,?_,⟨vs,s1,ax s2 λx hx=>?_,λi s' x a b=>(s3 i s' x a b).mono (λ_ q=>q) hz⟩,ax r1 (λx hx=>?_),λx hx=>⟨?_,(h.zl x hx).2⟩,h.n4,h.n5,h.n7,h.ns,h.H7,h.g.new g8 h.n5.1,h.ne⟩
 .rw[kp b4 (ae h.m4) (gJ h.m4 x1 (by decide))];exact h.m4
 .rw[kp b7 (ae h.mf) (gJ h.mf x1 (by decide))];exact h.mf
 .obtain⟨c,hc⟩:=au s2 hx
  exact kp x (ae hc) (h.ns x hx).2.2
 .obtain⟨c,hc⟩:=au r1 hx
  exact kp x (ae hc) (gJ hc x1 (by decide))
 .have:=(h.zl x hx).1;have:=g8.size;omega
end
section
variable{A:aI}(HA:bG A){Λ:bW}{w:World}{bs:Nat}{S:Sit}
include HA
theorem XJ(h:dX Λ bs S w)(hF:S.aK A)(hN:S.C.n=A.N){g:Nat}(hg:g<S.C.n)(Xz:(S.bz.getD g []).length<=60)(hlc:∀c∈S.bz.getD g [],A.gc c):CY 28 #[Ptt bs,.int .i64 g] w (λv w'=>∃lv sv rv,v=.agg #[lv,sv,rv]/\jL w' lv (S.bz.getD g [])/\vZ w' sv (cK A (A.bg g S.C.n) (S.bz.getD g []) (S.bz.getD g []).length)/\w'.ownsRow 0 70 7 rv (dW A (A.bg g S.C.n) (S.bz.getD g []) (S.bz.getD g []).length).length ((dW A (A.bg g S.C.n) (S.bz.getD g []) (S.bz.getD g []).length).map ag.cells).flatten/\GB none w w'):=by
 have oI:=hF.cl.n;have hgood:A.good 0 (A.bg g S.C.n):=HA.Ag _ _ hN hg oI;obtain⟨bc,a,gv,sv0,B,ad,hS⟩:=h;obtain⟨be,hbe⟩:∃b,S.bz[g]?=some b:=⟨S.bz[g]'(by rw[hF.be];exact hg),by simp[hF.be,hg]⟩;obtain⟨bv,hbv⟩:∃b,a.bv[g]?=some b:=⟨a.bv[g]'(by rw[hS.si.bl,hF.be];exact hg),by simp[hS.si.bl,hF.be,hg]⟩;have Nf:S.bz.getD g []=be:=by rw[Jdx,hbe];rfl
 rw[Nf]at Xz hlc |-;have Lb0:=hS.si.bi _ _ _ hbe hbv;obtain⟨ba,kH,rfl⟩:∃a c,bv=.slice a be.length c:=by obtain⟨vs,v1,v2,v3⟩:=Lb0;exact af v2
 obtain⟨s0,hs0⟩:∃s0,s0=A.bg g S.C.n:=⟨_,rfl⟩;rw[<-hs0]at hgood |-;refine qh fG Tryz.func28 rfl rfl ?_;refine CS.piece (Q:=λq w1=>∃b4,q=[(0,Ptt bs),(1,.int .i64 g),(4,Ptt b4)]/\w1.heap[b4]?=some (.cells #[Ptz,Ptz,Ptz] 102)/\GB none w w1/\w.heap.size<=b4) (CS.e λw1 b4 m4 g1 l4=>⟨_,by exact sb rfl,b4,rfl,m4,g1,l4⟩) ?_;rintro _ w1 ⟨b4,rfl,m4,g1,l4⟩;have lt4:=ae m4;refine CS.piece (Q:=λq w3=>∃b5 v Z,q=[(0,Ptt bs),(1,.int .i64 g),(4,Ptt b4),(5,Ptt b5)]/\Hl w3 b5 (kU s0 v) 55/\zH w3 Z v s0/\(∀x,Z x->x<w3.heap.size/\w1.heap.size<=x)/\¬Z b5/\GB none w1 w3/\w1.heap.size<=b5) (CS.e ?_) ?_
 .have adH:=HA.beg w1 g S.C.n hg oI
  rw[<-hs0]at adH;refine⟨_,_,(hS.ay g1).si.mem,_,rfl,_,adH,?_⟩;rintro _ w2 ⟨T,M,D,O,I,e,rfl,hs,g2⟩;obtain⟨ta,tn,tc,ma,mn,mc,da,dn,dc,oa,on,oc,ia,il,ic,rfl,rfl,rfl,rfl,rfl⟩:=(hs _ λ_ _ _=>rfl).sl;intro w3 b5 m5 g3 l5;refine⟨_,_,_,m5,rfl,rfl,λw4 m4' g4=>?_⟩;have z2:=g2.size;have z3:=g3.size;have z4:=g4.size;refine⟨_,by exact sb rfl,b5,⟨_,_,_,_,_⟩,λx=>w1.heap.size<=x/\x<w2.heap.size,rfl,m4',λw' e=>hs w' λx h1 h2=>(e x ⟨h1,h2⟩).trans ((g4.block x (by omega) (λe=>by cases e;omega)).trans (g3.block x h2 nofun)),λx hx=>⟨by omega,hx.1⟩,λhx=>by omega,g2.trans (g3.new g4 l5),by omega⟩
 rintro _ w3 ⟨b5,vx,Z0,rfl,m5,hx0,PY,nZ5,g3,l5⟩;have JD:=ae m5;have z1:=g1.size;have z3:=g3.size;have h3:=hS.ay (g1.trans g3);refine CS.piece (Q:=λq w5=>∃b7,q=[(4,Ptt b4),(5,Ptt b5),(7,Ptt b7)]/\Fo w w5 b4 b5 b7 (.slice ba be.length kH) Ptz Ptz [] [] s0 Z0) (CS.e ?_) ?_
 .obtain⟨gb,I4,RO,Hr,AZ,KE,adi,adj⟩:=qR h3.si.be hbv
  refine⟨_,_,h3.si.mem,.slice (Pty gb) S.bz.length I4,by show(fD _ _ _)[4]?=_;unfold fD;rw[Hr];rfl,by omega,_,_,AZ,.slice ba be.length kH,by show RO.toList[0+(g:Int).toNat*1]?=_;rw[Jbh,Jfq,Jfa];exact KE,?_⟩;intro w4 b7 m7 g4 l7;refine⟨_,_,_,m7,rfl,rfl,λw5 m7' g5=>?_⟩;have z4:=g4.size;have z5:=g5.size;have G5:GB none w3 w5:=g4.new g5 l7;refine⟨_,by exact sb rfl,b7,rfl,⟨G5.get (g3.get m4 nofun) nofun,⟨vx,G5.get m5 nofun,hx0.mono (λ_ h=>h) λx hx=>G5.block x (PY x hx).1 nofun⟩,m7',⟨[],rfl,eu _ _ _,λi s x h=>by cases h⟩,eu _ _ _,λx hx=>⟨by have:=(PY x hx).1;omega,by have:=(PY x hx).2;omega⟩,⟨l4,λhx=>by have:=(PY _ hx).2;omega⟩,⟨by omega,nZ5⟩,⟨by omega,λhx=>by have:=(PY _ hx).1;omega⟩,nofun,nofun,(g1.trans g3).trans G5,by omega⟩⟩
 rintro _ w5 ⟨b7,rfl,F5⟩;clear hx0 PY nZ5 m5 g3 l5 h3;have lb:∀{w':World},GB none w w'->jL w' (.slice ba be.length kH) be:=λg'=>(hS.ay g').si.bi _ _ _ hbe hbv
 refine CS.piece (Q:=λq w8=>q=[(4,Ptt b4),(5,Ptt b5),(7,Ptt b7)]/\∃sv,Fo w w8 b4 b5 b7 (.slice ba be.length kH) sv Ptz [s0] [] s0 Z0) (CS.e ?_) ?_
 .obtain⟨v,x1,x2⟩:=F5.mx
  obtain⟨ta,tn,tc,ma,mn,mc,da,dn,dc,oa,on,oc,ia,il,ic,e1,e2,e3,e4,e5⟩:=(x2 w5 λ_ _=>rfl).sl;obtain⟨vT,vM,vD,vO,vI⟩:=v;dsimp only at e1 e2 e3 e4 e5;subst e1 e2 e3 e4 e5;refine⟨_,_,F5.mf,_,rfl,_,_,x1,kU s0 _,rfl,rfl,λw6 b6 m6 g6 l6=>?_⟩;have F6:=F5.gb g6;have x2:=x2.mono (Z':=Z0) (w':=w6) (λ_ q=>q) λx hx=>g6.block x (F5.zl x hx).1 nofun
  refine⟨_,kU s0 _,eu w6 55 7,⟨_,_,m6,rfl,rfl,rfl⟩,by decide,λbX w7 nU g7 n7=>?_⟩;obtain⟨la,lc,rfl⟩:=af nU;refine⟨_,_,_,(g7.get F6.mf nofun),rfl,rfl,λw8 m8 g8=>?_⟩;exact⟨_,by exact sb rfl,rfl,_,F6.app x2 (vs:=[]) rfl (eu _ _ _) (λi s x h=>by cases h) nU g7 n7 m8 g8⟩
 rintro _ w6 ⟨rfl,sv1,F6⟩;clear F5;refine CS.piece (Q:=λq w8=>q=[(4,Ptt b4),(7,Ptt b7)]/\∃sv rv Z,Fo w w8 b4 b5 b7 (.slice ba be.length kH) sv rv (cK A s0 be be.length) (dW A s0 be be.length) (bR A s0 be) Z) ?_ ?_
 .refine CS.piece (Q:=λq w'=>q=[(4,Ptt b4),(5,Ptt b5),(7,Ptt b7),(8,.int .i64 0)]/\w'=w6) (CS.e ⟨_,by exact sb rfl,rfl,rfl⟩) ?_
  rintro _ w6 ⟨rfl,rfl⟩;refine CS.block ?_;refine CS.loop (λm s w5=>∃(k:Nat) (sv rv:Value) (Z:Nat->Prop),m=be.length-k/\k<=be.length/\s=S8 b4 b5 b7 k []/\Fo w w5 b4 b5 b7 (.slice ba be.length kH) sv rv (cK A s0 be k) (dW A s0 be k) (bR A s0 (be.take k)) Z) ⟨_,_,⟨0,sv1,_,Z0,rfl,Jcm _,rfl,F6⟩,sb rfl⟩ ?_;clear F6;rintro m s w5 ⟨k,sv,rv,Z,rfl,hk,rfl,F⟩;refine CS.cut (Qn:=λq w'=>k<be.length/\q=S8 b4 b5 b7 k []/\w'=w5) (Qx:=λj q w'=>j=0/\k=be.length/\q=[(4,Ptt b4),(7,Ptt b7)]/\w'=w5) (Qr:=λ_ _=>False) (CS.e ?_) ?_ ?_ (λ_ _ _ h _=>h.elim)
  .refine⟨_,_,F.mf,_,rfl,ah (λc=>?_) (λc=>?_)⟩
   .exact⟨_,by exact sb rfl,by have:=Ptq c;omega,rfl,rfl⟩
   .exact⟨_,by exact sb rfl,rfl,by have:=Ptx c;omega,rfl,rfl⟩
  rotate_left
  .rintro j q s w' ⟨rfl,rfl,rfl,rfl⟩ hs
   rw[Jfn]at F;exact⟨_,hs,rfl,sv,rv,Z,F⟩
  rintro _ w5 ⟨d2,rfl,rfl⟩;obtain⟨c,hc⟩:∃c,be[k]?=some c:=⟨be[k],by simp[d2]⟩;have ny:=wo HA hgood Xz hlc k hk;have hgc:=hlc c (Jcv hc);have ek:=H6 (A:=A) (s:=s0) hc;have est:=Oo A s0 be k;rw[ek]at est;obtain⟨sk,hsk⟩:∃sk,sk=bR A s0 (be.take k):=⟨_,rfl⟩;rw[<-hsk]at ny ek est F;obtain⟨s1,hs1⟩:∃s1,s1=(A.ap sk c).1:=⟨_,rfl⟩;rw[<-hs1]at ek est;have Y2:=Vi A s0 hc;rw[<-hsk]at Y2;obtain⟨rc,hrc⟩:∃rc,rc=(A.ap sk c).2:=⟨_,rfl⟩;rw[<-hrc]at Y2;obtain⟨gI,XK⟩:∃gI,gI=cK A s0 be k:=⟨_,rfl⟩;obtain⟨qC,XL⟩:∃qC,qC=dW A s0 be k:=⟨_,rfl⟩;have hrl:qC.length=k:=by rw[XL];simp[dW]
  rw[<-XK,<-XL]at F;rw[<-XK]at est;rw[<-XL]at Y2;refine CS.piece (Q:=λq w'=>q=S8 b4 b5 b7 k []/\∃sv rv Z,Fo w w' b4 b5 b7 (.slice ba be.length kH) sv rv (gI++[s1]) (qC++[rc]) s1 Z) ?_ ?_;rotate_left
  .rintro _ w' ⟨rfl,bX,rv',Z',F'⟩
   refine CS.e ?_;exact⟨by omega,_,_,⟨k+1,bX,rv',Z',rfl,by omega,rfl,by rw[est,ek,Y2];exact F'⟩,(sb rfl),by omega⟩
  refine CS.block ?_;obtain⟨vx,mx,shx⟩:=F.mx;have mf:=F.mf;obtain⟨gx,Ng,UW,UX,ex,_,hcx,hex,hrx⟩:=(lb F.g).el hc;subst ex;have hcall:=λw' (g:GB none w5 w')=>HA.call w' sk c _ _ _ _ _ _ (show fE w' vx.T vx.M vx.D vx.O vx.I sk from shx w' λx hx=>g.block x (F.zl x hx).1 nofun) ny ⟨_,_,rfl,hrx.kz g.kz⟩ hgc
  rw[<-hs1,<-hrc]at hcall;refine CS.piece (Q:=λq w8=>∃b9 b10 v Z',q=S8 b4 b5 b7 k [(9,Ptt b9),(10,Ptt b10)]/\Fo w w8 b4 b5 b7 (.slice (Pty gx) be.length kH) sv rv gI qC sk Z'/\Hl w8 b9 (kU s1 v) 55/\zH w8 Z' v s1/\Hl w8 b10 (ag.cells rc) 70/\w5.heap.size<=b9) (CS.e ?_) ?_
  .have fin:∀{vc v3:World} {T M D O I:Value} {b9 b10 s0:Nat},(∀w'':World,(∀x,s0<=x->x<vc.heap.size->w''.heap[x]?=vc.heap[x]?)->fE w'' T M D O I s1)->GB none vc v3->GB none w5 v3->w5.heap.size<=s0->(b9<s0\/vc.heap.size<=b9)->(b10<s0\/vc.heap.size<=b10)->w5.heap.size<=b9->(w5.heap.size<=b10/\b9≠b10)->∀{w7 w8:World},w7.heap[b9]?=some (.cells #[.int .u8 s1.g,.int .u8 s1.n,T,M,D,O,I] 55)->GB (some b9) v3 w7->Hl w8 b10 rc.cells 70->GB (some b10) w7 w8->∃b9' adK v Z',(S8 b4 b5 b7 k [(9,Ptt b9),(10,Ptt b10)]:Sg)=S8 b4 b5 b7 k [(9,Ptt b9'),(10,Ptt adK)]/\Fo w w8 b4 b5 b7 (.slice (Pty gx) be.length kH) sv rv gI qC sk Z'/\Hl w8 b9' (kU s1 v) 55/\zH w8 Z' v s1/\Hl w8 adK (ag.cells rc) 70/\w5.heap.size<=b9':=λ{vc v3 T M D O I b9 b10 s0} hs kc G e0 e5 e6 l5 l6 w7 w8 m7 g7 m8 g8=>by
    have zc:=kc.size;have z7:=g7.size;have z8:=g8.size;exact⟨b9,b10,⟨T,M,D,O,I⟩,_,rfl,F.wide ((G.new g7 l5).new g8 l6.1) e0 (show vc.heap.size<=_ by omega),g8.get m7 (λe=>by cases e;exact l6.2 rfl),λw' e=>hs w' λx h1 h2=>(e x (.inr ⟨h1,h2⟩)).trans ((g8.block x (by omega) (λe=>by cases e;omega)).trans ((g7.block x (by omega) (λe=>by cases e;omega)).trans (kc.block x h2 nofun))),m8,l5⟩
   refine⟨by kernel_rfl,_,_,mx,kU sk vx,rfl,rfl,_,_,mf,_,rfl,by omega,_,_,hcx,dF c UW UX,by show aG Ng.toList (0+(k:Int).toNat*17) 17=_;rw[Jbh,Jfa];exact hex,rfl,?_⟩;refine⟨⟨_,hcall w5 (GB.refl _ _),?_⟩,?_,?_⟩;all_goals first
    |(intro v1 b1' m1 K1 L1;have j1:=ae m1;have G1:GB none w5 v1:=K1;refine⟨⟨G1.get hcx nofun,G1.get mf nofun,G1.get mx nofun,trivial⟩,?_⟩)
    |(rintro _ v1 ⟨T,M,D,O,I,rfl,hs,K1⟩;have G1:GB none w5 v1:=K1;obtain⟨ta,tn,tc,ma,mn,mc,da,dn,dc,oa,on,oc,ia,il,ic,rfl,rfl,rfl,rfl,rfl⟩:=(hs _ λ_ _ _=>rfl).sl)
   all_goals have z1:=K1.size
   all_goals first|refine⟨⟨_,hcall v1 G1,?_⟩,?_⟩|refine⟨?_,?_⟩
   all_goals first
    |(intro v2 b2' m2 K2 L2;have j2:=ae m2;have G2:GB none w5 v2:=G1.trans K2;refine⟨⟨G2.get hcx nofun,G2.get mf nofun,G2.get mx nofun,trivial⟩,?_⟩)
    |(rintro _ v2 ⟨T,M,D,O,I,rfl,hs,K2⟩;have G2:GB none w5 v2:=G1.trans K2;obtain⟨ta,tn,tc,ma,mn,mc,da,dn,dc,oa,on,oc,ia,il,ic,rfl,rfl,rfl,rfl,rfl⟩:=(hs _ λ_ _ _=>rfl).sl)
   all_goals have z2:=K2.size
   all_goals try have m1:=K2.get m1 nofun
   all_goals try refine⟨_,hcall v2 G2,?_⟩
   all_goals first
    |(intro v3 b3' m3 K3 L3;have j3:=ae m3;have G3:GB none w5 v3:=G2.trans K3;refine⟨⟨G3.get hcx nofun,G3.get mf nofun,G3.get mx nofun,trivial⟩,?_⟩)
    |(rintro _ v3 ⟨T,M,D,O,I,rfl,hs,K3⟩;have G3:GB none w5 v3:=G2.trans K3;obtain⟨ta,tn,tc,ma,mn,mc,da,dn,dc,oa,on,oc,ia,il,ic,rfl,rfl,rfl,rfl,rfl⟩:=(hs _ λ_ _ _=>rfl).sl)
   all_goals have z3:=K3.size
   all_goals try have m1:=K3.get m1 nofun
   all_goals try have m2:=K3.get m2 nofun
   all_goals exact⟨_,_,_,‹_›,rfl,rfl,λw7 m7 g7=>⟨_,_,_,g7.get ‹_› (λe=>by cases e;omega),rfl,rfl,λw8 m8 g8=>⟨_,by exact sb rfl,fin hs (by first|exact GB.refl _ _|exact K3|exact K2.trans K3) G3 (by omega) (by omega) (by omega) (by omega) (by omega) m7 g7 m8 g8⟩⟩⟩
  rintro _ w8 ⟨b9,b10,v,Z',rfl,F8,m9,Y3,m10,l9⟩;obtain⟨ta,tn,tc,ma,mn,mc,da,dn,dc,oa,on,oc,ia,il,ic,e1,e2,e3,e4,e5⟩:=(Y3 w8 λ_ _=>rfl).sl;obtain⟨vT,vM,vD,vO,vI⟩:=v;dsimp only at e1 e2 e3 e4 e5;subst e1 e2 e3 e4 e5;obtain⟨v,hv⟩:∃v:V5,v=⟨.slice ta tn tc,.slice ma mn mc,.slice da dn dc,.slice oa on oc,.slice ia il ic⟩:=⟨_,rfl⟩;have ahI:(kU s1 v).all one=true:=by rw[hv];rfl
  rw[<-hv]at m9 Y3;have ns9:∀x,sv.ownBlock=some x->x≠b9:=λx hx e=>by obtain⟨_,_,t2,_⟩:=F.st;obtain⟨c,hc⟩:=au t2 hx;have:=ae hc;omega
  obtain⟨vs,t1,t2,t3⟩:=F8.st;obtain⟨sa,R9,rfl⟩:=af t2;refine CS.piece (Q:=λq w'=>∃bX,q=S8 b4 b5 b7 k [(9,Ptt b9),(10,Ptt b10)]/\Fo w w' b4 b5 b7 (.slice (Pty gx) be.length kH) bX rv (gI++[s1]) qC sk Z'/\Hl w' b9 (kU s1 v) 55/\zH w' Z' v s1/\Hl w' b10 (ag.cells rc) 70) (CS.e ?_) ?_
  .refine⟨_,_,F8.mf,_,rfl,_,_,m9,kU s1 v,rfl,rfl,λw6 b6 m6 g6 l6=>?_⟩
   have F6:=F8.gb g6;have kz:∀x,Z' x->w6.heap[x]?=w8.heap[x]?:=λx hx=>g6.block x (F8.zl x hx).1 nofun
   have t2':=ax t2 λx hx=>by obtain⟨c,hc⟩:=au t2 hx;exact g6.block x (ae hc) nofun
   have hlen:gI.length=k+1:=by rw[XK];simp[cK]
   refine⟨_,kU s1 v,t2',⟨_,_,m6,rfl,rfl,ahI⟩,by omega,λbX w7 nU g7 n7=>?_⟩;obtain⟨la,lc,rfl⟩:=af nU;have nf:(Value.slice sa gI.length R9).ownBlock≠some b7:=λe=>by obtain⟨c,hc⟩:=au t2' e;exact gJ F6.mf hc (by decide) rfl
   have n9:(Value.slice sa gI.length R9).ownBlock≠some b9:=λe=>ns9 _ e rfl
   have n10:(Value.slice sa gI.length R9).ownBlock≠some b10:=λe=>by obtain⟨c,hc⟩:=au t2 e;exact gJ m10 hc (by decide) rfl
   refine⟨_,_,_,(g7.get F6.mf nf.symm),rfl,rfl,λw9 Df g9=>?_⟩;have F9:=F6.app (Y3.mono (λ_ q=>q) kz) t1 t2' (λi s x a b=>(t3 i s x a b).mono (λ_ q=>q) kz) nU g7 n7 Df g9;have x9:Hl w9 b9 (kU s1 v) 55:=g9.get (g7.get (g6.get m9 nofun) n9.symm) λe=>by cases e;exact gJ F8.mf m9 (by decide) rfl
   have nR:w9.heap[b10]?=_:=g9.get (g7.get (g6.get m10 nofun) n10.symm) λe=>by cases e;exact gJ F8.mf m10 (by decide) rfl
   exact⟨_,by exact sb rfl,_,rfl,F9,x9,Y3.mono (λ_ q=>q) λx hx=>(g9.block x (Jbz (F6.zl x hx).1 g7.size) (λe=>by cases e;exact F6.n7.2 hx)).trans ((g7.block x (F6.zl x hx).1 (λe=>(F6.ns x e.symm).2.1 hx)).trans (kz x hx)),nR⟩
  rintro _ w9 ⟨bX,rfl,F9,Df,ahJ,Fy⟩;have r1:=F9.rp;obtain⟨ra,Sa,rfl⟩:=af r1;obtain⟨_,_,t9,_⟩:=F9.st;obtain⟨sa',ae4,rfl⟩:=af t9;refine CS.piece (Q:=λq w'=>∃rv',q=S8 b4 b5 b7 k [(9,Ptt b9)]/\Fo w w' b4 b5 b7 (.slice (Pty gx) be.length kH) (.slice sa' (gI++[s1]).length ae4) rv' (gI++[s1]) (qC++[rc]) sk Z'/\Hl w' b9 (kU s1 v) 55/\zH w' Z' v s1) (CS.e ?_) ?_
  .refine⟨_,_,F9.mf,_,rfl,_,_,Fy,ag.cells rc,rfl,rfl,λw6 b6 m6 g6 l6=>?_⟩
   have F6:=F9.gb g6;have kz:∀x,Z' x->w6.heap[x]?=w9.heap[x]?:=λx hx=>g6.block x (F9.zl x hx).1 nofun
   have r1':=ax r1 λx hx=>by obtain⟨c,hc⟩:=au r1 hx;exact g6.block x (ae hc) nofun
   refine⟨_,ag.cells rc,r1',⟨_,_,m6,rfl,rfl,rfl⟩,by omega,λrv' w7 nU g7 n7=>?_⟩;replace nU:w7.ownsRow 0 70 7 rv' (qC++[rc]).length ((qC++[rc]).map ag.cells).flatten:=by
    rw[Jc6,Jda,Jfr,show(map ag.cells [rc]).flatten=ag.cells rc by simp];exact nU
   obtain⟨la,lc,rfl⟩:=af nU;have nf:(Value.slice ra qC.length Sa).ownBlock≠some b7:=λe=>by obtain⟨c,hc⟩:=au r1' e;exact gJ F6.mf hc (by decide) rfl
   have n9:(Value.slice ra qC.length Sa).ownBlock≠some b9:=λe=>by obtain⟨c,hc⟩:=au r1 e;exact gJ Df hc (by decide) rfl
   refine⟨_,_,_,(g7.get F6.mf nf.symm),rfl,rfl,λqi m11 g10=>?_⟩;exact⟨_,by exact sb rfl,_,rfl,F6.rep r1' nU g7 n7 m11 g10,g10.get (g7.get (g6.get Df nofun) n9.symm) (λe=>by cases e;exact gJ F9.mf Df (by decide) rfl),ahJ.mono (λ_ q=>q) λx hx=>(g10.block x (Jbz (F6.zl x hx).1 g7.size) (λe=>by cases e;exact F6.n7.2 hx)).trans ((g7.block x (F6.zl x hx).1 (λe=>(F6.H7 x e.symm).2 hx)).trans (kz x hx))⟩
  rintro _ qi ⟨rv',rfl,F10,ahK,ae5⟩;obtain⟨vx',mx',ahL⟩:=F10.mx;obtain⟨ua,un,uc,pa,pn,pc',qa,qn,qc,Yh,on',Yi,Y4,Y5,Y6,e1,e2,e3,e4,e5⟩:=(ahL qi λ_ _=>rfl).sl;obtain⟨vT,vM,vD,vO,vI⟩:=vx';dsimp only at e1 e2 e3 e4 e5;subst e1 e2 e3 e4 e5 hv;refine CS.e ?_;refine⟨_,_,ahK,_,rfl,rfl,?_⟩;refine⟨_,_,_,mx',rfl,rfl,λEt m11 g11=>?_⟩;exact⟨_,by exact sb rfl,rfl,_,_,_,F10.now ae5 m11 g11⟩
 rintro _ w8 ⟨rfl,sv,rv,Z,F⟩;obtain⟨vs,s1,s2,s3⟩:=F.st;have r1:=F.rp;obtain⟨sa,R9,rfl⟩:=af s2;obtain⟨ra,Sa,rfl⟩:=af r1;refine CS.e ?_;refine⟨_,_,F.mf,_,rfl,rfl,_,_,_,F.m4,rfl,rfl,λw9 m9 g9=>?_⟩;have G9:GB none w w9:=F.g.new g9 F.n4.1;have nb:∀{x:Nat} {c:Array Value} {u:TypeId},w8.heap[x]?=some (.cells c u)->u≠102->w9.heap[x]?=w8.heap[x]?:=λ{x c u} hx hu=>g9.block x (ae hx) λe=>by cases e;exact gJ hx F.m4 hu rfl
 refine⟨_,_,m9,_,rfl,rfl,_,_,_,rfl,lb G9,⟨vs,s1,ax s2 λx hx=>by obtain⟨c,hc⟩:=au s2 hx;exact nb hc (by decide),λi s x a b=>s3 i s x a b w9 λy hy=>g9.block y (F.zl y hy).1 λe=>by cases e;exact F.n4.2 hy⟩,ax r1 (λx hx=>by obtain⟨c,hc⟩:=au r1 hx;exact nb hc (by decide)),G9⟩
end
def NF(w w':World):Prop:=∀(x:Nat) (c:Array Value) (t:TypeId),w.heap[x]?=some (.cells c t)->t≠102->w'.heap[x]?=some (.cells c t)
theorem NF.of{w w':World}(g:GB none w w'):NF w w':=λ_ _ _ h _=>g.get h nofun
theorem NF.trans{w w' w'':World}(h:NF w w')(k:NF w' w''):NF w w'':=λx c t a b=>k x c t (h x c t a b) b
theorem NF.kz{w w':World}(h:NF w w'):Kz w w':=λt ht b c hb=>h b c t hb λe=>by subst e;revert ht;decide
theorem NF.own{w w':World}(h:NF w w'){e:TypeId}{size n:Nat}{v:Value}{xs:List Value}(o:w.ownsRow 0 e size v n xs)(he:e≠102):w'.ownsRow 0 e size v n xs:=ax o λx hx=>by obtain⟨c,hc⟩:=au o hx;rw[h x c e hc he,hc]
theorem jL.nf{w w':World}(h:NF w w'){v:Value}{l:List MC}(k:jL w v l):jL w' v l:=k.kz h.kz λx hx=>by obtain⟨c,hc⟩:=k.obj hx;rw[h x c _ hc (by decide),hc]
theorem vZ.nf{w w':World}(h:NF w w'){v:Value}{l:List St}(k:vZ w v l):vZ w' v l:=by
 obtain⟨vs,k1,k2,k3⟩:=k;exact⟨vs,k1,h.own k2 (by decide),λi s x a b=>fE.kz (k3 i s x a b) h.kz⟩
structure xn(w:World)(p:Value×Value×Value)(f:List MC×List St×List ag):Prop where
 lg:jL w p.1 f.1
 st:vZ w p.2.1 f.2.1
 rp:w.ownsRow 0 70 7 p.2.2 f.2.2.length (f.2.2.map ag.cells).flatten
def yn(p:Value×Value×Value):List Value:=[p.1,p.2.1,p.2.2]
def pG(w:World)(v:Value)(fs:List (List MC×List St×List ag)):Prop:=∃vs:List (Value×Value×Value),vs.length=fs.length/\w.ownsRow 0 102 3 v fs.length (vs.map yn).flatten/\∀(i:Nat) f p,fs[i]?=some f->vs[i]?=some p->xn w p f
theorem xn.nf{w w':World}(h:NF w w'){p:Value×Value×Value}{f:List MC×List St×List ag}(k:xn w p f):xn w' p f:=by
 exact⟨k.lg.nf h,k.st.nf h,h.own k.rp (by decide)⟩
theorem pG.gb{w w':World}(g:GB none w w'){v:Value}{fs:List (List MC×List St×List ag)}(k:pG w v fs):pG w' v fs:=by
 obtain⟨vs,k1,k2,k3⟩:=k;exact⟨vs,k1,ax k2 λx hx=>by obtain⟨c,hc⟩:=au k2 hx;exact g.block x (ae hc) nofun,λi f p a b=>(k3 i f p a b).nf (.of g)⟩
theorem xn.sl{w:World}{p:Value×Value×Value}{f:List MC×List St×List ag}(h:xn w p f):∃a1 c1 a2 c2 a3 c3,p=(.slice a1 f.1.length c1,.slice a2 f.2.1.length c2,.slice a3 f.2.2.length c3):=by
 obtain⟨vs,_,h1,_⟩:=h.lg;obtain⟨us,_,h2,_⟩:=h.st;have h3:=h.rp;obtain⟨a1,c1,e1⟩:=af h1;obtain⟨a2,c2,e2⟩:=af h2;obtain⟨a3,c3,e3⟩:=af h3;obtain⟨x,y,z⟩:=p;exact⟨a1,c1,a2,c2,a3,c3,by rw[show x=_ from e1,show y=_ from e2,show z=_ from e3]⟩
def Sit.fold(A:aI)(S:Sit)(g:Nat):List MC×List St×List ag:=(S.bz.getD g [],cK A (A.bg g S.C.n) (S.bz.getD g []) (S.bz.getD g []).length,dW A (A.bg g S.C.n) (S.bz.getD g []) (S.bz.getD g []).length)
section
variable{A:aI}(HA:bG A){Λ:bW}{w:World}{bs:Nat}{S:Sit}
include HA
theorem aaH(h:dX Λ bs S w)(hF:S.aK A)(hN:S.C.n=A.N)(hb:∀g,g<S.C.n->(S.bz.getD g []).length<=60/\∀c∈S.bz.getD g [],A.gc c):CY 9 #[Ptt bs] w (λv w'=>pG w' v ((List.range S.C.n).map (S.fold A))/\GB none w w'):=by
 have oI:=hF.cl.n;obtain⟨bc,a,gv,sv0,B,ad,hS⟩:=h;refine qh fG Tryz.func9 rfl rfl ?_;refine CS.piece (Q:=λq w'=>q=[(0,Ptt bs)]/\w'=w) (CS.e ⟨_,by exact sb rfl,rfl,rfl⟩) ?_;rintro _ w ⟨rfl,rfl⟩;refine CS.piece (Q:=λq w'=>q=[(0,Ptt bs),(3,Ptz)]/\w'=w) (CS.e ⟨_,by exact sb rfl,rfl,rfl⟩) ?_;rintro _ w ⟨rfl,rfl⟩;refine CS.piece (Q:=λq w'=>∃v,q=[(3,v)]/\pG w' v ((List.range S.C.n).map (S.fold A))/\GB none w w') ?_ ?_;rotate_left
 .rintro _ w' ⟨v,rfl,h1,g1⟩
  obtain⟨va,vc,rfl⟩:∃a c,v=.slice a ((List.range S.C.n).map (S.fold A)).length c:=by obtain⟨_,_,o,_⟩:=h1;exact af o
  refine CS.e ?_;exact⟨h1,g1⟩
 refine CS.piece (Q:=λq w'=>q=[(0,Ptt bs),(3,Ptz),(4,.int .i64 0)]/\w'=w) (CS.e ⟨_,by exact sb rfl,rfl,rfl⟩) ?_;rintro _ w ⟨rfl,rfl⟩;refine CS.block ?_;refine CS.loop (λm s wk=>∃(i:Nat) (v:Value),m=S.C.n-i/\i<=S.C.n/\s=[(0,Ptt bs),(3,v),(4,.int .i64 i)]/\pG wk v ((List.range i).map (S.fold A))/\GB none w wk/\∀x,v.ownBlock=some x->w.heap.size<=x) ⟨_,_,⟨0,_,rfl,Jcm _,rfl,⟨[],rfl,eu _ _ _,λi f p h=>by cases h⟩,GB.refl _ _,nofun⟩,sb rfl⟩ ?_;rintro m s wk ⟨i,v,rfl,hi,rfl,hv,gk,nv⟩;have hm:=(hS.ay gk).si.mem;refine CS.cut (Qn:=λq w'=>i<S.C.n/\q=[(0,Ptt bs),(3,v),(4,.int .i64 i)]/\w'=wk) (Qx:=λj q w'=>j=0/\i=S.C.n/\q=[(3,v)]/\w'=wk) (Qr:=λ_ _=>False) (CS.e ?_) ?_ ?_ (λ_ _ _ h _=>h.elim)
 .refine⟨_,_,hm,_,rfl,ah (λc=>?_) (λc=>?_)⟩
  .exact⟨_,by exact sb rfl,by have:=Ptq c;omega,rfl,rfl⟩
  .exact⟨_,by exact sb rfl,rfl,by have:=Ptx c;omega,rfl,rfl⟩
 rotate_left
 .rintro j q s w' ⟨rfl,rfl,rfl,rfl⟩ hs
  exact⟨_,hs,v,rfl,hv,gk⟩
 rintro _ wk ⟨c1,rfl,rfl⟩;refine CS.piece (Q:=λq w'=>∃v',q=[(0,Ptt bs),(3,v'),(4,.int .i64 i)]/\pG w' v' ((List.range (i+1)).map (S.fold A))/\GB none w w'/\∀x,v'.ownBlock=some x->w.heap.size<=x) ?_ ?_;rotate_left
 .rintro _ w' ⟨v',rfl,h1,h2,h3⟩
  obtain⟨va,vc,rfl⟩:∃a c,v'=.slice a ((List.range (i+1)).map (S.fold A)).length c:=by obtain⟨_,_,o,_⟩:=h1;exact af o
  refine CS.e ?_;exact⟨by omega,_,_,⟨i+1,_,rfl,by omega,rfl,h1,h2,h3⟩,(sb rfl),by omega⟩
 refine CS.block ?_;refine CS.piece (Q:=λq w'=>∃b5 p,q=[(0,Ptt bs),(3,v),(4,.int .i64 i),(5,Ptt b5)]/\Hl w' b5 (yn p) 102/\xn w' p (S.fold A i)/\GB none wk w') (CS.e ?_) ?_
 .refine⟨_,XJ HA ⟨_,_,_,_,_,_,hS.ay gk⟩ hF hN c1 (hb i c1).1 (hb i c1).2,?_⟩
  rintro _ w1 ⟨lv,sv,rv,rfl,f1,f2,f3,g1⟩;have fo:xn w1 (lv,sv,rv) (S.fold A i):=⟨f1,f2,f3⟩;obtain⟨a1,k1,a2,k2,a3,k3,e⟩:=fo.sl;cases e
  refine λw2 b5 m5 g2 l5=>⟨_,_,_,m5,rfl,rfl,λw3 m3 g3=>?_⟩
  have G:GB none w1 w3:=g2.new g3 l5;exact⟨_,by exact sb rfl,b5,(.slice a1 _ k1,.slice a2 _ k2,.slice a3 _ k3),rfl,m3,fo.nf (.of G),g1.trans G⟩
 rintro _ w3 ⟨b5,p,rfl,m5,fo,g3⟩;have hv:=hv.gb g3;obtain⟨vs,v1,v2,v3⟩:=hv;obtain⟨va,vc,rfl⟩:=af v2;obtain⟨a1,k1,a2,k2,a3,k3,rfl⟩:=fo.sl;refine CS.e ?_;refine⟨_,_,m5,yn _,rfl,rfl,λw6 b6 m6 g6 l6=>?_⟩;have v2':=ax v2 λx hx=>by obtain⟨c,hc⟩:=au v2 hx;exact g6.block x (ae hc) nofun
 have hlen:((List.range i).map (S.fold A)).length=i:=by simp
 refine⟨_,yn _,v2',⟨_,_,m6,rfl,rfl,rfl⟩,by omega,λv' w7 nU g7 n7=>?_⟩;have nf:NF w3 w7:=NF.trans (.of g6) λx c t hx ht=>g7.get hx λe=>by obtain⟨c',hc⟩:=au v2' e.symm;rw[hx]at hc;injection hc with hc;injection hc with _ hc;exact ht hc
 have gw:GB none w w6:=(gk.trans g3).trans g6;obtain⟨la,lc,rfl⟩:=af nU;replace nU:w7.ownsRow 0 102 3 _ _ _:=nU;refine⟨_,by exact sb rfl,_,rfl,⟨vs++[(.slice a1 (S.fold A i).1.length k1,.slice a2 (S.fold A i).2.1.length k2,.slice a3 (S.fold A i).2.2.length k3)],by simp[v1],?_,λj f q hf hq=>?_⟩,⟨g7.os.trans gw.os,g7.out.trans gw.out,Jb1 gw.size g7.size,λx hx _=>?_⟩,λx hx=>?_⟩
 .rw[Jc2,Jda,Jc6,Jda,Jfr]
  simpa using nU
 .rw[Jc2,Jda,Jgw]at hf
  rw[Jgw,v1]at hq;split at hf
  .rename_i lt
   rw[Jb6 lt]at hq;exact(v3 j f q hf hq).nf nf
  .rename_i lt
   rw[Jb5 lt]at hq;have:j=i:=by have:=(Jcn.1 hf).1;simp at this lt;omega
   subst this;simp at hf hq;subst hf hq;exact fo.nf nf
 .exact(g7.block x (Jbz hx gw.size) λe=>by have:=nv x e.symm;omega).trans (gw.block x hx nofun)
 .rcases n7 x hx with q|q
  .exact nv x q
  .have:=gw.size;omega
end
end
