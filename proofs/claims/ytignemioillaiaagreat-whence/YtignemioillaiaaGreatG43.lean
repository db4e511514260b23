/- A site, plain and in memory. -/
import Derived.Test.YtignemioillaiaaGreatG33
namespace Go.Proofs.YtignemioillaiaaGreat
set_option maxHeartbeats 8000000
set_option maxRecDepth 100000
section
open Go Go.Conc
structure Ask where
 q:bQ
 g:Nat
 p:Nat
def Ask.cells(a:Ask):List Value:=a.q.cells++[.int .u8 a.g,.int .i64 a.p]
structure Sit where
 C:aM
 asks:List Ask
 bf:List (List MC)
 len:List Nat
 fell:List Bool
 next:Nat
 bad:Bool
structure yj where
 (aq bq lq fq:Value)
 bv:List Value
def fJ(bc:Nat)(S:Sit)(a:yj):List Value:=[Ptt bc,.int .i64 S.C.n,.int .i64 S.C.sz,a.aq,a.bq,a.lq,a.fq,.int .i64 S.next,.bool S.bad]
def xy(bs:Nat)(a:yj)(x:Nat):Prop:=x=bs\/a.aq.ownBlock=some x\/a.bq.ownBlock=some x\/a.lq.ownBlock=some x\/a.fq.ownBlock=some x\/∃v∈a.bv,v.ownBlock=some x
structure oH(w:World)(bs bc:Nat)(S:Sit)(a:yj):Prop where
 mem:w.heap[bs]? = some (.cells (fJ bc S a).toArray 88)
 ak:w.ownsRow 0 162 9 a.aq S.asks.length (S.asks.map Ask.cells).flatten
 be:w.ownsRow 0 22 1 a.bq S.bf.length a.bv
 bl:a.bv.length=S.bf.length
 bi:∀(g:Nat) (l:List MC) (v:Value),S.bf[g]? = some l->a.bv[g]? = some v->jA w v l
 le:w.ownsRow 0 3 1 a.lq S.len.length (S.len.map λk=>Value.int .i64 (k:Nat))
 fe:w.ownsRow 0 4 1 a.fq S.fell.length (S.fell.map Value.bool)
def Wu:List Nat:=[88,162,22,3,4,54]
section
variable{w w':World}{bs bc:Nat}{S S':Sit}{a a':yj}
theorem oH.typ(h:oH w bs bc S a){x:Nat}(hx:xy bs a x):∃c t,w.heap[x]? = some (.cells c t)/\t∈Wu:=by
 rcases hx with rfl|hx|hx|hx|hx|⟨v,hv,hx⟩
 ·exact⟨_,_,h.mem,by decide⟩
 ·obtain⟨c,hc⟩:=ay h.ak hx;exact⟨_,_,hc,by decide⟩
 ·obtain⟨c,hc⟩:=ay h.be hx;exact⟨_,_,hc,by decide⟩
 ·obtain⟨c,hc⟩:=ay h.le hx;exact⟨_,_,hc,by decide⟩
 ·obtain⟨c,hc⟩:=ay h.fe hx;exact⟨_,_,hc,by decide⟩
 ·obtain⟨g,hg⟩:=List.mem_iff_getElem?.1 hv
  have hl:g<S.bf.length:=by rw[<-h.bl];exact(List.getElem?_eq_some_iff.1 hg).1
  obtain⟨c,hc⟩:=(h.bi g S.bf[g] v (by simp[hl]) hg).obj hx;exact⟨_,_,hc,by decide⟩
theorem oH.lt(h:oH w bs bc S a){x:Nat}(hx:xy bs a x):x<w.heap.size:=by obtain⟨c,t,hc,_⟩:=h.typ hx;exact ae hc
theorem oH.keep(h:oH w bs bc S a)(k:Kz w w')(hb:∀x,xy bs a x->w'.heap[x]? = w.heap[x]?):oH w' bs bc S a :=
 ⟨(hb bs (.inl rfl)).trans h.mem,az h.ak λg hg=>hb g (.inr (.inl hg)),az h.be λg hg=>hb g (.inr (.inr (.inl hg))),h.bl,λg l v hl hv=>(h.bi g l v hl hv).kz k λx hx=>hb x (.inr (.inr (.inr (.inr (.inr ⟨v,List.mem_of_getElem? hv,hx⟩))))),az h.le λg hg=>hb g (.inr (.inr (.inr (.inl hg)))),az h.fe λg hg=>hb g (.inr (.inr (.inr (.inr (.inl hg)))))⟩
theorem RP{t:Nat}(h:t∈Wu):t ∉ Mw/\t ∉ MS:=by
 unfold Wu at h;simp only[List.mem_cons,List.not_mem_nil,or_false]at h;rcases h with rfl|rfl|rfl|rfl|rfl|rfl<;>decide
end
section
variable{w w':World}{bc:Nat}{gv sv:Value}{q:List bH}{n sz:Nat}{B:Nat->Nat->Nat}{ad:Nat->Nat->fO}{F:Nat->Nat->MR}
theorem CI.keep(h:CI w bc gv sv q n sz B ad F)(k:Kz w w')(hb:∀x,mU n sz B bc sv ad x->w'.heap[x]? = w.heap[x]?)(hp:∀(x:Nat) (c:Array Value) (t:TypeId),t∈MS->w.heap[x]? = some (Obj.cells c t)->w'.heap[x]? = some (Obj.cells c t)):CI w' bc gv sv q n sz B ad F:=by
 obtain⟨bg,cg,cur,tg,e1,e2,e3,e4,e5⟩:=h.ptr;refine⟨(hb bc (.inl rfl)).trans h.eY,az h.row λx hx=>hb x (.inr (.inl hx)),h.len,⟨bg,cg,cur,tg,e1,e2,hp _ _ _ e4 e3,e4,λg hg=>?_⟩,λg i hg hi=>(h.rep g i hg hi).keep k λx hx=>hb x (.inr (.inr ⟨g,i,hg,hi,hx⟩)),h.sep,h.ob⟩;obtain⟨bs,ct,cur',ts,f1,f2,f3,f4,f5⟩:=e5 g hg;exact⟨bs,ct,cur',ts,f1,f2,hp _ _ _ f4 f3,f4,f5⟩
end
structure ig(Λ:bU)(bs bc:Nat)(S:Sit)(a:yj)(gv sv:Value)(B:Nat->Nat->Nat)(ad:Nat->Nat->fO)(w:World):Prop where
 si:oH w bs bc S a
 ci:CI w bc gv sv S.C.q S.C.n S.C.sz B ad S.C.F
 dj:∀x,xy bs a x->¬mU S.C.n S.C.sz B bc sv ad x
 pr:∀b o,Λ.pr b=some o->w.heap[b]? = some o/\¬xy bs a b/\¬mU S.C.n S.C.sz B bc sv ad b
 os:w.os=Λ.os
 out:w.output=Λ.out
def cZ(Λ:bU)(bs:Nat)(S:Sit)(w:World):Prop:=∃bc a gv sv B ad,ig Λ bs bc S a gv sv B ad w
open Classical in
noncomputable def zt(w:World)(n sz:Nat)(B:Nat->Nat->Nat)(bc:Nat)(sv:Value)(ad:Nat->Nat->fO):bU:=⟨λb=>if mU n sz B bc sv ad b then none else w.heap[b]?,w.os,w.output⟩
section
variable{Λ:bU}{w w':World}{bs bc:Nat}{S S':Sit}{a a':yj}{gv sv:Value}{B:Nat->Nat->Nat}{ad:Nat->Nat->fO}
theorem ig.ax(h:ig Λ bs bc S a gv sv B ad w)(g:GB none w w'):ig Λ bs bc S a gv sv B ad w':=⟨h.si.keep g.kz λx hx=>g.block x (h.si.lt hx) nofun,h.ci.ax g,h.dj,λb o hb=>⟨g.get (h.pr b o hb).1 nofun,(h.pr b o hb).2⟩,g.os.trans h.os,g.out.trans h.out⟩
theorem cZ.ax(h:cZ Λ bs S w)(g:GB none w w'):cZ Λ bs S w':=by obtain⟨bc,a,gv,sv,B,ad,h⟩:=h;exact⟨bc,a,gv,sv,B,ad,h.ax g⟩
theorem ig.enter(h:ig Λ bs bc S a gv sv B ad w):uw (zt w S.C.n S.C.sz B bc sv ad) bc S.C w:=by
 refine⟨gv,sv,B,ad,h.ci,λb o hb=>?_,rfl,rfl⟩;unfold zt at hb;dsimp only at hb;split at hb
 ·cases hb
 ·rename_i hn;exact⟨hb,hn⟩
theorem ig.leave(h:ig Λ bs bc S a gv sv B ad w){C':aM}(hn:C'.n=S.C.n)(hz:C'.sz=S.C.sz)(hc:uw (zt w S.C.n S.C.sz B bc sv ad) bc C' w')(k:Kz w w'):cZ Λ bs { S with C:=C' } w':=by
 obtain⟨Q7,bX,B',jF,h'⟩:=hc;have kp:∀{x:Nat} {o:Obj},w.heap[x]? = some o->¬mU S.C.n S.C.sz B bc sv ad x->w'.heap[x]? = some o/\¬mU C'.n C'.sz B' bc bX jF x:=λ{x o} hx hno=>h'.pr x o (by unfold zt;dsimp only;rw[if_neg hno];exact hx)
 have ks:∀x,xy bs a x->w'.heap[x]? = w.heap[x]?/\¬mU C'.n C'.sz B' bc bX jF x:=λx hx=>by
  obtain⟨c,t,h1,_⟩:=h.si.typ hx;obtain⟨h2,h3⟩:=kp h1 (h.dj x hx);exact⟨h2.trans h1.symm,h3⟩
 have s':=h.si.keep k λx hx=>(ks x hx).1
 refine⟨bc,a,Q7,bX,B',jF,⟨⟨?_,s'.ak,s'.be,s'.bl,s'.bi,s'.le,s'.fe⟩,h'.ci,λx hx=>(ks x hx).2,λb o hb=>?_,h'.os.trans h.os,h'.out.trans h.out⟩⟩
 ·have e:fJ bc { S with C:=C' } a=fJ bc S a:=by unfold fJ;dsimp only;rw[hn,hz]
  rw[e];exact s'.mem
 ·obtain⟨p1,p2,p3⟩:=h.pr b o hb
  obtain⟨q1,q2⟩:=kp p1 p3;exact⟨q1,p2,q2⟩
end
def bA(c:Int)(n:Nat):Nat:=(if c<0 then(-c - 1).toNat else c.toNat)%n
theorem jl(c:Int){n:Nat}(h:0<n):bA c n<n:=Nat.mod_lt _ h
theorem zu(a:Nat)(n:Nat):((a:Int)).tmod n=((a%n:Nat):Int):=by
 rw[Int.tmod_eq_emod_of_nonneg (Int.natCast_nonneg _)];omega
theorem jc(w:World)(c:Int)(n:Nat)(hn:0<n)(h0 : -9223372036854775808<=c)(h1:c<9223372036854775808):ag Tryz.prog 19 #[.int .i64 c,.int .i64 n] w (λv w'=>v=.int .i64 (bA c n)/\w'=w):=by
 refine aj ah mixed Tryz.func19 rfl rfl ?_;refine au (λd=>?_) (λd=>?_)
 ·have d1:c<0:=of_decide_eq_true d
  refine⟨by omega,by omega,by omega,?_,rfl⟩;unfold bA;rw[if_pos d1,show(0 - (c+1):Int)=((-c - 1).toNat:Int)by omega,zu]
 ·have d1:¬c<0:=of_decide_eq_false d
  refine⟨by omega,?_,rfl⟩;unfold bA;rw[if_neg d1,show c=(c.toNat:Int)by omega,zu,Int.toNat_natCast]
def aZ(C:aM)(k:Int):Nat:=bA k (C.n*C.sz) / C.sz
def bN(C:aM)(k:Int):Nat:=bA k (C.n*C.sz)%C.sz
theorem nV{C:aM}{k:Int}(hn:0<C.n)(hs:0<C.sz):aZ C k<C.n/\bN C k<C.sz:=by
 have h:=jl k (Nat.mul_pos hn hs);refine⟨?_,Nat.mod_lt _ hs⟩;unfold aZ;rw[Nat.div_lt_iff_lt_mul hs];exact h
section
variable{w:World}{bs bc:Nat}{S:Sit}{a:yj}
theorem qz(hm:w.heap[bs]? = some (.cells (fJ bc S a).toArray 88))(hn:0<S.C.n/\S.C.n<=4)(hs:0<S.C.sz/\S.C.sz<=5)(k:Int)(h0 : -9223372036854775808<=k)(h1:k<9223372036854775808):ag Tryz.prog 28 #[Ptt bs,.int .i64 k] w (λv w'=>v=.agg #[.int .u8 (aZ S.C k),.int .u8 (bN S.C k)]/\GB none w w'):=by
 refine aj ah mixed Tryz.func28 rfl rfl ?_;refine λw1 b1 m1 g1 l1=>?_
 have hm1:=g1.get hm nofun;have hp:0<S.C.n*S.C.sz:=Nat.mul_pos hn.1 hs.1;have hle:S.C.n*S.C.sz<=20:=Nat.mul_le_mul hn.2 hs.2;have hj:=jl k hp;obtain⟨q1,q2⟩:=nV (k:=k) hn.1 hs.1;have pk:=jc w1 k (S.C.n*S.C.sz) hp h0 h1;rw[Int.natCast_mul]at pk;have ahb:(S.C.n:Int)*S.C.sz<=20:=by rw[<-Int.natCast_mul];omega
 have hge':(0:Int)<=(S.C.n:Int)*S.C.sz:=by rw[<-Int.natCast_mul];omega
 refine⟨by kernel_rfl,_,_,hm1,_,rfl,_,_,hm1,_,rfl,by omega,_,pk,?_⟩;rintro _ w2 ⟨rfl,rfl⟩;have hq:IntKind.i64.wrap (((bA k (S.C.n*S.C.sz):Nat):Int).tdiv (S.C.sz:Int))=((aZ S.C k:Nat):Int):=by
  have e:((bA k (S.C.n*S.C.sz):Nat):Int).tdiv (S.C.sz:Int)=((aZ S.C k:Nat):Int):=by
   rw[Int.tdiv_eq_ediv_of_nonneg (Int.natCast_nonneg _)];unfold aZ;omega
  rw[e,Go.IntWalk.i64_in _ ⟨by omega,by omega⟩]
 have hr:((bA k (S.C.n*S.C.sz):Nat):Int).tmod (S.C.sz:Int)=((bN S.C k:Nat):Int):=by rw[zu];rfl
 have nz:((S.C.sz:Nat):Int)≠0:=by omega
 refine⟨by kernel_rfl,_,_,hm1,_,rfl,nz,.inl ⟨⟨by rw[hq];omega,by rw[hq];omega⟩,_,_,hm1,_,rfl,nz,.inl ⟨⟨by rw[hr];omega,by rw[hr];omega⟩,?_⟩⟩⟩;rw[hq,hr];refine⟨_,_,_,m1,rfl,rfl,λw3 m3 g3=>?_⟩;exact⟨_,_,m3,[.int .u8 (aZ S.C k),.int .u8 (bN S.C k)],rfl,rfl,rfl,g1.new g3 l1⟩
end
def jV(k:Int):Int:=if k.tmod 11 == 10 then 18446744073709551615 else k.tmod 11
theorem Fg(w:World)(k:Int):ag Tryz.prog 35 #[.int .u64 k] w (λv w'=>v=.int .u64 (jV k)/\w'=w):=by
 refine aj ah mixed Tryz.func35 rfl rfl ?_;unfold jV;refine⟨by decide,au (λc=>?_) (λc=>?_)⟩
 ·have c1:(k.tmod 11 == 10)=true:=c
  exact⟨by rw[if_pos c1],rfl⟩
 ·have c1:¬(k.tmod 11 == 10)=true:=λe=>by have:(k.tmod 11 == 10)=false:=c;rw[this]at e;cases e
  exact⟨by decide,by rw[if_neg c1],rfl⟩
def dh(q:bQ):bQ:=⟨q.c.tmod 3,1+q.s.tmod 9,1+q.k.tmod 4,jV q.key,if(1+q.k.tmod 4 == 2)=true then q.v else 0,if(1+q.k.tmod 4 == 4)=true then(if jV q.hi<jV q.key then jV q.key else jV q.hi)else 0,if(1+q.k.tmod 4 == 4)=true then q.to.tmod 4 else 0⟩
theorem U5(w:World)(q:bQ)(hs:0<=q.s)(hk:0<=q.k):ag Tryz.prog 126 #[.agg q.cells.toArray] w (λv w'=>v=.agg (dh q).cells.toArray/\GB none w w'):=by
 refine aj ah mixed Tryz.func126 rfl rfl ?_;refine λw1 b1 m1 g1 l1 w2 b2 m2 g2 l2=>?_
 have m12:=g2.get m1 nofun;have s9:0<=q.s.tmod 9/\q.s.tmod 9<9:=⟨Int.tmod_nonneg _ hs,Int.tmod_lt_of_pos _ (by decide)⟩;have k4:0<=q.k.tmod 4/\q.k.tmod 4<4:=⟨Int.tmod_nonneg _ hk,Int.tmod_lt_of_pos _ (by decide)⟩;refine⟨by kernel_rfl,?_⟩;refine⟨_,_,m12,_,rfl,by decide,_,_,m12,_,rfl,by decide,⟨by omega,by omega⟩,_,_,m12,_,rfl,by decide,⟨by omega,by omega⟩,_,_,m12,_,rfl,?_⟩;refine⟨⟨_,Fg w2 q.key,?_⟩,λw3 b3 m3 g3 l3=>?_⟩
 ·rintro _ w2 ⟨rfl,rfl⟩
  refine⟨⟨m12,m12,m12,m12,trivial⟩,λw3 b3 m3 g3 l3=>⟨⟨g3.get m12 nofun,g3.get m12 nofun,g3.get m12 nofun,g3.get m12 nofun,trivial⟩,_,_,_,m3,rfl,rfl,λw4 m4 g4=>?_⟩⟩;have tK:GB none w2 w4:=g3.new g4 l3;have m14:w4.heap[b1]? = _:=tK.get m12 nofun;have m24:w4.heap[b2]? = _:=tK.get m2 nofun;have Bu:b2≠b3:=by have:=ae m2;omega
  have RQ:b1≠b3:=by have:=ae m12;omega
  refine⟨_,_,m4,_,rfl,au (λc=>?_) (λc=>?_)⟩
  ·have c1:(1+q.k.tmod 4 == 2)=true:=c
   have c2:¬(1+q.k.tmod 4 == 4)=true:=λe=>by have:=eq_of_beq c1;have:=eq_of_beq e;omega
   refine⟨_,_,m14,_,rfl,_,_,_,m4,rfl,rfl,λw5 m5 g5=>?_⟩;have uz:w5.heap[b2]? = _:=g5.get m24 λe=>Bu (Option.some.inj e)
   refine⟨_,_,m5,(dh q).cells,by unfold dh;rw[if_pos c1,if_neg c2,if_neg c2];rfl,rfl,_,_,_,uz,rfl,rfl,λw6 m6 g6=>?_⟩;exact⟨_,_,m6,(dh q).cells,rfl,rfl,rfl,(g1.trans ((g2.trans (tK.new g5 l3)))).new g6 (by have:=g1.size;omega)⟩
  ·have c1:¬(1+q.k.tmod 4 == 2)=true:=λe=>by have:(1+q.k.tmod 4 == 2)=false:=c;rw[this]at e;cases e
   refine au (λd=>?_) (λd=>?_)
   ·have c2:(1+q.k.tmod 4 == 4)=true:=d
    refine⟨_,_,m14,_,rfl,_,Fg w4 q.hi,?_⟩;rintro _ w5 ⟨rfl,rfl⟩;refine⟨_,_,_,m4,rfl,rfl,λw5 m5 g5=>?_⟩;have m15:w5.heap[b1]? = _:=g5.get m14 λe=>RQ (Option.some.inj e)
    have uz:w5.heap[b2]? = _:=g5.get m24 λe=>Bu (Option.some.inj e)
    refine⟨_,_,m5,_,rfl,_,_,m5,_,rfl,au (λx=>?_) (λx=>?_)⟩
    ·have x1:jV q.hi<jV q.key:=of_decide_eq_true x
     refine⟨_,_,m5,_,rfl,_,_,_,m5,rfl,rfl,λw6 m6 g6=>?_⟩;have m16:w6.heap[b1]? = _:=g6.get m15 λe=>RQ (Option.some.inj e)
     have m26:w6.heap[b2]? = _:=g6.get uz λe=>Bu (Option.some.inj e)
     refine⟨_,_,m16,_,rfl,by decide,_,_,_,m6,rfl,rfl,λw7 m7 g7=>?_⟩;have Ie:w7.heap[b2]? = _:=g7.get m26 λe=>Bu (Option.some.inj e)
     refine⟨_,_,m7,(dh q).cells,by unfold dh;rw[if_neg c1,if_pos c2,if_pos x1,if_pos c2];rfl,rfl,_,_,_,Ie,rfl,rfl,λw8 m8 g8=>?_⟩;exact⟨_,_,m8,(dh q).cells,rfl,rfl,rfl,(g1.trans ((g2.trans (((tK.new g5 l3).new g6 l3).new g7 l3)))).new g8 (by have:=g1.size;omega)⟩
    ·have x1:¬jV q.hi<jV q.key:=of_decide_eq_false x
     refine⟨_,_,m15,_,rfl,by decide,_,_,_,m5,rfl,rfl,λw7 m7 g7=>?_⟩;have Ie:w7.heap[b2]? = _:=g7.get uz λe=>Bu (Option.some.inj e)
     refine⟨_,_,m7,(dh q).cells,by unfold dh;rw[if_neg c1,if_pos c2,if_neg x1,if_pos c2];rfl,rfl,_,_,_,Ie,rfl,rfl,λw8 m8 g8=>?_⟩;exact⟨_,_,m8,(dh q).cells,rfl,rfl,rfl,(g1.trans ((g2.trans ((tK.new g5 l3).new g7 l3)))).new g8 (by have:=g1.size;omega)⟩
   ·have c2:¬(1+q.k.tmod 4 == 4)=true:=λe=>by have:(1+q.k.tmod 4 == 4)=false:=d;rw[this]at e;cases e
    refine⟨_,_,m4,(dh q).cells,by unfold dh;rw[if_neg c1,if_neg c2,if_neg c2];rfl,rfl,_,_,_,m24,rfl,rfl,λw6 m6 g6=>?_⟩;exact⟨_,_,m6,(dh q).cells,rfl,rfl,rfl,(g1.trans (g2.trans tK)).new g6 (by have:=g1.size;omega)⟩
 ·have m13:=g3.get m12 nofun
  refine⟨⟨m13,m13,m13,m13,trivial⟩,_,Fg w3 q.key,?_⟩;rintro _ w4 ⟨rfl,rfl⟩;refine⟨⟨m13,m13,m13,m13,trivial⟩,_,_,_,m3,rfl,rfl,λw4 m4 g4=>?_⟩;have tK:GB none w2 w4:=g3.new g4 l3;have m14:w4.heap[b1]? = _:=tK.get m12 nofun;have m24:w4.heap[b2]? = _:=tK.get m2 nofun;have Bu:b2≠b3:=by have:=ae m2;omega
  have RQ:b1≠b3:=by have:=ae m12;omega
  refine⟨_,_,m4,_,rfl,au (λc=>?_) (λc=>?_)⟩
  ·have c1:(1+q.k.tmod 4 == 2)=true:=c
   have c2:¬(1+q.k.tmod 4 == 4)=true:=λe=>by have:=eq_of_beq c1;have:=eq_of_beq e;omega
   refine⟨_,_,m14,_,rfl,_,_,_,m4,rfl,rfl,λw5 m5 g5=>?_⟩;have uz:w5.heap[b2]? = _:=g5.get m24 λe=>Bu (Option.some.inj e)
   refine⟨_,_,m5,(dh q).cells,by unfold dh;rw[if_pos c1,if_neg c2,if_neg c2];rfl,rfl,_,_,_,uz,rfl,rfl,λw6 m6 g6=>?_⟩;exact⟨_,_,m6,(dh q).cells,rfl,rfl,rfl,(g1.trans ((g2.trans (tK.new g5 l3)))).new g6 (by have:=g1.size;omega)⟩
  ·have c1:¬(1+q.k.tmod 4 == 2)=true:=λe=>by have:(1+q.k.tmod 4 == 2)=false:=c;rw[this]at e;cases e
   refine au (λd=>?_) (λd=>?_)
   ·have c2:(1+q.k.tmod 4 == 4)=true:=d
    refine⟨_,_,m14,_,rfl,_,Fg w4 q.hi,?_⟩;rintro _ w5 ⟨rfl,rfl⟩;refine⟨_,_,_,m4,rfl,rfl,λw5 m5 g5=>?_⟩;have m15:w5.heap[b1]? = _:=g5.get m14 λe=>RQ (Option.some.inj e)
    have uz:w5.heap[b2]? = _:=g5.get m24 λe=>Bu (Option.some.inj e)
    refine⟨_,_,m5,_,rfl,_,_,m5,_,rfl,au (λx=>?_) (λx=>?_)⟩
    ·have x1:jV q.hi<jV q.key:=of_decide_eq_true x
     refine⟨_,_,m5,_,rfl,_,_,_,m5,rfl,rfl,λw6 m6 g6=>?_⟩;have m16:w6.heap[b1]? = _:=g6.get m15 λe=>RQ (Option.some.inj e)
     have m26:w6.heap[b2]? = _:=g6.get uz λe=>Bu (Option.some.inj e)
     refine⟨_,_,m16,_,rfl,by decide,_,_,_,m6,rfl,rfl,λw7 m7 g7=>?_⟩;have Ie:w7.heap[b2]? = _:=g7.get m26 λe=>Bu (Option.some.inj e)
     refine⟨_,_,m7,(dh q).cells,by unfold dh;rw[if_neg c1,if_pos c2,if_pos x1,if_pos c2];rfl,rfl,_,_,_,Ie,rfl,rfl,λw8 m8 g8=>?_⟩;exact⟨_,_,m8,(dh q).cells,rfl,rfl,rfl,(g1.trans ((g2.trans (((tK.new g5 l3).new g6 l3).new g7 l3)))).new g8 (by have:=g1.size;omega)⟩
    ·have x1:¬jV q.hi<jV q.key:=of_decide_eq_false x
     refine⟨_,_,m15,_,rfl,by decide,_,_,_,m5,rfl,rfl,λw7 m7 g7=>?_⟩;have Ie:w7.heap[b2]? = _:=g7.get uz λe=>Bu (Option.some.inj e)
     refine⟨_,_,m7,(dh q).cells,by unfold dh;rw[if_neg c1,if_pos c2,if_neg x1,if_pos c2];rfl,rfl,_,_,_,Ie,rfl,rfl,λw8 m8 g8=>?_⟩;exact⟨_,_,m8,(dh q).cells,rfl,rfl,rfl,(g1.trans ((g2.trans ((tK.new g5 l3).new g7 l3)))).new g8 (by have:=g1.size;omega)⟩
   ·have c2:¬(1+q.k.tmod 4 == 4)=true:=λe=>by have:(1+q.k.tmod 4 == 4)=false:=d;rw[this]at e;cases e
    refine⟨_,_,m4,(dh q).cells,by unfold dh;rw[if_neg c1,if_neg c2,if_neg c2];rfl,rfl,_,_,_,m24,rfl,rfl,λw6 m6 g6=>?_⟩;exact⟨_,_,m6,(dh q).cells,rfl,rfl,rfl,(g1.trans (g2.trans tK)).new g6 (by have:=g1.size;omega)⟩
section
variable{Λ:bU}{w w' w1 w2:World}{bs bc:Nat}{S S':Sit}{a a':yj}{gv sv:Value}{B:Nat->Nat->Nat}{ad:Nat->Nat->fO}
theorem GS.of{P:Nat->Prop}{r:Option Nat}(g:GB r w w')(hr:∀x,r=some x->P x):GS P w w':=⟨g.os,g.out,g.size,λx hx hn=>g.block x hx λe=>hn (hr x e.symm)⟩
theorem GS.then{P:Nat->Prop}{r:Option Nat}(h:GS P w w1)(g:GB r w1 w2)(hr:∀x,r=some x->P x):GS P w w2:=⟨g.os.trans h.os,g.out.trans h.out,Nat.le_trans h.size g.size,λx hx hn=>(g.block x (Nat.lt_of_lt_of_le hx h.size) λe=>hn (hr x e.symm)).trans (h.block x hx hn)⟩
theorem ig.gs(h:ig Λ bs bc S a gv sv B ad w)(g:GS (xy bs a) w w')(hs:oH w' bs bc S' a')(hC:S'.C=S.C)(hn:∀x,xy bs a' x->xy bs a x\/w.heap.size<=x):ig Λ bs bc S' a' gv sv B ad w'/\Kz w w':=by
 have kt:∀{t:TypeId} {b:Nat} {c:Array Value},t ∉ Wu->w.heap[b]? = some (.cells c t)->w'.heap[b]? = some (.cells c t):=λ{t b c} ht hb=>(g.block b (ae hb) λe=>by
  obtain⟨c',t',h1,h2⟩:=h.si.typ e;rw[hb]at h1;injection h1 with h1;injection h1 with _ h1;subst h1;exact ht h2).trans hb
 have k:Kz w w':=λt ht b c hb=>kt (λe=>(RP e).1 ht) hb
 have cl:∀x,mU S.C.n S.C.sz B bc sv ad x->x<w.heap.size:=λx hx=>by
  rcases hx with rfl|hx|⟨g,i,hg,hi,hx⟩
  ·exact ae h.ci.eY
  ·obtain⟨c,hc⟩:=ay h.ci.row hx;exact ae hc
  ·exact(h.ci.rep g i hg hi).lt hx
 have c':=h.ci.keep k (λx hx=>g.block x (cl x hx) λe=>h.dj x e hx) λx c t ht hx=>kt (λe=>(RP e).2 ht) hx
 refine⟨⟨hs,by rw[hC];exact c',λx hx hc=>?_,λb o hb=>⟨(g.block b (ae (h.pr b o hb).1) (h.pr b o hb).2.1).trans (h.pr b o hb).1,λhx=>?_,by rw[hC];exact(h.pr b o hb).2.2⟩,g.os.trans h.os,g.out.trans h.out⟩,k⟩
 ·rw[hC]at hc
  rcases hn x hx with e|e
  ·exact h.dj x e hc
  ·have:=cl x hc;omega
 ·rcases hn b hx with e|e
  ·exact(h.pr b o hb).2.1 e
  ·have:=ae (h.pr b o hb).1;omega
theorem oH.num(h:oH w bs bc S a){k:Nat}{b:Bool}(m:w'.heap[bs]? = some (.cells (fJ bc { S with next:=k,bad:=b } a).toArray 88))(g:GB (some bs) w w'):oH w' bs bc { S with next:=k,bad:=b } a:=by
 have nb:∀{x:Nat} {c:Array Value} {t:TypeId},w.heap[x]? = some (.cells c t)->t≠88->w'.heap[x]? = w.heap[x]?:=λhx ht=>g.block _ (ae hx) λe=>dw hx h.mem ht (Option.some.inj e)
 have k:Kz w w':=λt ht b c hb=>(nb hb λe=>by subst e;revert ht;decide).trans hb
 refine⟨m,az h.ak λx hx=>?_,az h.be λx hx=>?_,h.bl,λg l v hl hv=>(h.bi g l v hl hv).kz k λx hx=>?_,az h.le λx hx=>?_,az h.fe λx hx=>?_⟩
 ·obtain⟨c,hc⟩:=ay h.ak hx;exact nb hc (by decide)
 ·obtain⟨c,hc⟩:=ay h.be hx;exact nb hc (by decide)
 ·obtain⟨c,hc⟩:=(h.bi g l v hl hv).obj hx;exact nb hc (by decide)
 ·obtain⟨c,hc⟩:=ay h.le hx;exact nb hc (by decide)
 ·obtain⟨c,hc⟩:=ay h.fe hx;exact nb hc (by decide)
theorem ig.num(h:ig Λ bs bc S a gv sv B ad w){k:Nat}{b:Bool}(m:w'.heap[bs]? = some (.cells (fJ bc { S with next:=k,bad:=b } a).toArray 88))(g:GB (some bs) w w'):ig Λ bs bc { S with next:=k,bad:=b } a gv sv B ad w'/\Kz w w' :=
 h.gs (GS.of g λ_x e=>.inl (Option.some.inj e).symm) (h.si.num m g) rfl λ_x hx=>.inl hx
theorem ig.ak'(h:ig Λ bs bc S a gv sv B ad w){v:Value}{l:List Ask}(g1:GB a.aq.ownBlock w w1)(ho:w1.ownsRow 0 162 9 v l.length (l.map Ask.cells).flatten)(hn:∀x,v.ownBlock=some x->a.aq.ownBlock=some x\/w.heap.size<=x)(m2:w2.heap[bs]? = some (.cells (fJ bc { S with asks:=l } { a with aq:=v }).toArray 88))(g2:GB (some bs) w1 w2):ig Λ bs bc { S with asks:=l } { a with aq:=v } gv sv B ad w2/\Kz w w2:=by
 have own:∀x,a.aq.ownBlock=some x->∃c,w.heap[x]? = some (.cells c 162):=λx hx=>ay h.si.ak hx
 have nb:∀{x:Nat} {c:Array Value} {t:TypeId},w.heap[x]? = some (.cells c t)->t≠88->t≠162->w2.heap[x]? = w.heap[x]?:=λ{x c t} hx ht1 ht2=>(g2.block x (Nat.lt_of_lt_of_le (ae hx) g1.size) λe=>dw hx h.si.mem ht1 (Option.some.inj e)).trans (g1.block x (ae hx) λe=>by obtain⟨c',hc⟩:=own x e.symm;exact dw hx hc ht2 rfl)
 have k:Kz w w2:=λt ht b c hb=>(nb hb (λe=>by subst e;revert ht;decide) (λe=>by subst e;revert ht;decide)).trans hb
 have hs:oH w2 bs bc { S with asks:=l } { a with aq:=v }:=by
  refine⟨m2,az ho λx hx=>?_,az h.si.be λx hx=>?_,h.si.bl,λg l v hl hv=>(h.si.bi g l v hl hv).kz k λx hx=>?_,az h.si.le λx hx=>?_,az h.si.fe λx hx=>?_⟩
  ·obtain⟨c,hc⟩:=ay ho hx
   refine g2.block x (ae hc) λe=>?_
   cases e
   rcases hn bs hx with q|q
   ·obtain⟨c',hc'⟩:=own bs q
    exact dw hc' h.si.mem (by decide) rfl
   ·have:=ae h.si.mem;omega
  ·obtain⟨c,hc⟩:=ay h.si.be hx;exact nb hc (by decide) (by decide)
  ·obtain⟨c,hc⟩:=(h.si.bi g l v hl hv).obj hx;exact nb hc (by decide) (by decide)
  ·obtain⟨c,hc⟩:=ay h.si.le hx;exact nb hc (by decide) (by decide)
  ·obtain⟨c,hc⟩:=ay h.si.fe hx;exact nb hc (by decide) (by decide)
 refine h.gs ((GS.of g1 λx e=>.inr (.inl e)).then g2 λx e=>.inl (Option.some.inj e).symm) hs rfl λx hx=>?_
 rcases hx with e|e|e|e|e|e
 ·exact .inl (.inl e)
 ·exact(hn x e).imp (λe=>.inr (.inl e)) id
 ·exact .inl (.inr (.inr (.inl e)))
 ·exact .inl (.inr (.inr (.inr (.inl e))))
 ·exact .inl (.inr (.inr (.inr (.inr (.inl e)))))
 ·exact .inl (.inr (.inr (.inr (.inr (.inr e)))))
theorem ig.le'(h:ig Λ bs bc S a gv sv B ad w){v:Value}{l:List Nat}(g1:GB a.lq.ownBlock w w1)(ho:w1.ownsRow 0 3 1 v l.length (l.map λk=>Value.int .i64 (k:Nat)))(hn:∀x,v.ownBlock=some x->a.lq.ownBlock=some x\/w.heap.size<=x)(m2:w2.heap[bs]? = some (.cells (fJ bc { S with len:=l } { a with lq:=v }).toArray 88))(g2:GB (some bs) w1 w2):ig Λ bs bc { S with len:=l } { a with lq:=v } gv sv B ad w2/\Kz w w2:=by
 have own:∀x,a.lq.ownBlock=some x->∃c,w.heap[x]? = some (.cells c 3):=λx hx=>ay h.si.le hx
 have nb:∀{x:Nat} {c:Array Value} {t:TypeId},w.heap[x]? = some (.cells c t)->t≠88->t≠3->w2.heap[x]? = w.heap[x]?:=λ{x c t} hx ht1 ht2=>(g2.block x (Nat.lt_of_lt_of_le (ae hx) g1.size) λe=>dw hx h.si.mem ht1 (Option.some.inj e)).trans (g1.block x (ae hx) λe=>by obtain⟨c',hc⟩:=own x e.symm;exact dw hx hc ht2 rfl)
 have k:Kz w w2:=λt ht b c hb=>(nb hb (λe=>by subst e;revert ht;decide) (λe=>by subst e;revert ht;decide)).trans hb
 have hs:oH w2 bs bc { S with len:=l } { a with lq:=v }:=by
  refine⟨m2,az h.si.ak λx hx=>?_,az h.si.be λx hx=>?_,h.si.bl,λg l v hl hv=>(h.si.bi g l v hl hv).kz k λx hx=>?_,az ho λx hx=>?_,az h.si.fe λx hx=>?_⟩
  ·obtain⟨c,hc⟩:=ay h.si.ak hx;exact nb hc (by decide) (by decide)
  ·obtain⟨c,hc⟩:=ay h.si.be hx;exact nb hc (by decide) (by decide)
  ·obtain⟨c,hc⟩:=(h.si.bi g l v hl hv).obj hx;exact nb hc (by decide) (by decide)
  ·obtain⟨c,hc⟩:=ay ho hx
   refine g2.block x (ae hc) λe=>?_
   cases e
   rcases hn bs hx with q|q
   ·obtain⟨c',hc'⟩:=own bs q
    exact dw hc' h.si.mem (by decide) rfl
   ·have:=ae h.si.mem;omega
  ·obtain⟨c,hc⟩:=ay h.si.fe hx;exact nb hc (by decide) (by decide)
 refine h.gs ((GS.of g1 λx e=>.inr (.inr (.inr (.inl e)))).then g2 λx e=>.inl (Option.some.inj e).symm) hs rfl λx hx=>?_
 rcases hx with e|e|e|e|e|e
 ·exact .inl (.inl e)
 ·exact .inl (.inr (.inl e))
 ·exact .inl (.inr (.inr (.inl e)))
 ·exact(hn x e).imp (λe=>.inr (.inr (.inr (.inl e)))) id
 ·exact .inl (.inr (.inr (.inr (.inr (.inl e)))))
 ·exact .inl (.inr (.inr (.inr (.inr (.inr e)))))
theorem ig.fe'(h:ig Λ bs bc S a gv sv B ad w){v:Value}{l:List Bool}(g1:GB a.fq.ownBlock w w1)(ho:w1.ownsRow 0 4 1 v l.length (l.map Value.bool))(hn:∀x,v.ownBlock=some x->a.fq.ownBlock=some x\/w.heap.size<=x)(m2:w2.heap[bs]? = some (.cells (fJ bc { S with fell:=l } { a with fq:=v }).toArray 88))(g2:GB (some bs) w1 w2):ig Λ bs bc { S with fell:=l } { a with fq:=v } gv sv B ad w2/\Kz w w2:=by
 have own:∀x,a.fq.ownBlock=some x->∃c,w.heap[x]? = some (.cells c 4):=λx hx=>ay h.si.fe hx
 have nb:∀{x:Nat} {c:Array Value} {t:TypeId},w.heap[x]? = some (.cells c t)->t≠88->t≠4->w2.heap[x]? = w.heap[x]?:=λ{x c t} hx ht1 ht2=>(g2.block x (Nat.lt_of_lt_of_le (ae hx) g1.size) λe=>dw hx h.si.mem ht1 (Option.some.inj e)).trans (g1.block x (ae hx) λe=>by obtain⟨c',hc⟩:=own x e.symm;exact dw hx hc ht2 rfl)
 have k:Kz w w2:=λt ht b c hb=>(nb hb (λe=>by subst e;revert ht;decide) (λe=>by subst e;revert ht;decide)).trans hb
 have hs:oH w2 bs bc { S with fell:=l } { a with fq:=v }:=by
  refine⟨m2,az h.si.ak λx hx=>?_,az h.si.be λx hx=>?_,h.si.bl,λg l v hl hv=>(h.si.bi g l v hl hv).kz k λx hx=>?_,az h.si.le λx hx=>?_,az ho λx hx=>?_⟩
  ·obtain⟨c,hc⟩:=ay h.si.ak hx;exact nb hc (by decide) (by decide)
  ·obtain⟨c,hc⟩:=ay h.si.be hx;exact nb hc (by decide) (by decide)
  ·obtain⟨c,hc⟩:=(h.si.bi g l v hl hv).obj hx;exact nb hc (by decide) (by decide)
  ·obtain⟨c,hc⟩:=ay h.si.le hx;exact nb hc (by decide) (by decide)
  ·obtain⟨c,hc⟩:=ay ho hx
   refine g2.block x (ae hc) λe=>?_
   cases e
   rcases hn bs hx with q|q
   ·obtain⟨c',hc'⟩:=own bs q
    exact dw hc' h.si.mem (by decide) rfl
   ·have:=ae h.si.mem;omega
 refine h.gs ((GS.of g1 λx e=>.inr (.inr (.inr (.inr (.inl e))))).then g2 λx e=>.inl (Option.some.inj e).symm) hs rfl λx hx=>?_
 rcases hx with e|e|e|e|e|e
 ·exact .inl (.inl e)
 ·exact .inl (.inr (.inl e))
 ·exact .inl (.inr (.inr (.inl e)))
 ·exact .inl (.inr (.inr (.inr (.inl e))))
 ·exact(hn x e).imp (λe=>.inr (.inr (.inr (.inr (.inl e))))) id
 ·exact .inl (.inr (.inr (.inr (.inr (.inr e)))))
end
end
