/- Lemmas. -/
import Derived.Test.YtignemioillaiabGreatG39
namespace Go.Proofs.YtignemioillaiabGreat
set_option maxHeartbeats 8000000
set_option maxRecDepth 100000
open List
section
open Go Go.Conc
def dn(l:List Int):List Nat:=l.map λn=>n.toNat%256
theorem eQ(a b:List Int):dn (a++b)=dn a++dn b:=Jda
theorem JX:∀(l:List Int) (r:ByteArray),(l.foldl (λr n=>r.push (UInt8.ofNat n.toNat)) r).data.toList=r.data.toList++l.map λn=>UInt8.ofNat n.toNat
 | [],r=>by simp
 |a::l,r=>by rw[Jbg,JX l];simp
theorem zy(l:List Int):dl (uX l)=dn l:=by
 unfold dl uX dn;rw[JX];show map UInt8.toNat ([]++_)=_;simp
theorem IV{k:Nat}{a l:List Nat}(h:a.length=k):num k (a++l)=(be a,l):=by
 rw[Ay (by simp;omega)];subst h;simp
theorem ac8(b:List Nat):∀(a:List Nat),be (a++b)=be a*256^b.length+be b:=by
 suffices h:∀(b:List Nat) (n:Nat),b.foldl (λn b=>n*256+b) n=n*256^b.length+be b from λa=>by
  unfold be;rw[Jg4,h];rfl
 intro b;induction b with
 |nil=>intro n;simp[be]
 |cons x b ih =>
  intro n;unfold be;rw[Jbg,Jbg,ih,ih (0*256+x),length_cons,Nat.pow_succ,Nat.add_mul,Nat.mul_assoc,Nat.mul_comm 256,Jc7,Jbh,Nat.add_assoc]
theorem DK(x:Int):IntKind.u8.wrap x=x%256:=rfl
theorem M6(x:Int):IntKind.u32.wrap x=x%4294967296:=rfl
theorem fd{x:Int}{n:Nat}:x.fdiv ((2:Int)^n)=x / 2^n:=Jgj _ (by exact Int.le_of_lt (Int.pow_pos (by decide)))
theorem RA(x:Nat):be (dn (b32 x))=x%4294967296:=by
 unfold b32;rw[fd,fd,fd,DK,DK,DK,DK];simp only[dn,Jcj,map_nil,be,Jbg,foldl_nil];omega
theorem Pz{x:Int}(h:0<=x):b32 x=b32 ((x.toNat:Nat):Int):=by rw[Jfp h]
theorem aeL{x:Nat}(h:x<18446744073709551616):be (dn (b64 x))=x:=by
 unfold b64;rw[eQ,ac8,fd,M6,M6,Pz (x:=(x:Int) / 2^32%4294967296) (by omega),Pz (x:=(x:Int)%4294967296) (by omega),RA,RA];show _*256^4+_=_;omega
section
variable{β:Type}{x:Nat}{l:List Nat}{f:Nat->List Nat->β}
theorem YM:nx 1 (dn [(x:Int)]++l) f=f (x%256) l:=by
 rw[aY (IV (k:=1) rfl)];show f (0*256+(x:Int).toNat%256) l=_;congr 1;omega
theorem qQ(h:x<256):nx 1 (dn [(x:Int)]++l) f=f x l:=by rw[YM,Jgb h]
theorem PD:nx 4 (dn (b32 x)++l) f=f (x%4294967296) l:=by rw[aY (IV (k:=4) rfl),RA]
theorem M7(h:x<4294967296):nx 4 (dn (b32 x)++l) f=f x l:=by rw[PD,Jgb h]
theorem Hg(h:x<18446744073709551616):nx 8 (dn (b64 x)++l) f=f x l:=by rw[aY (IV (k:=8) rfl),aeL h]
end
theorem U8.nat{x:Int}(h:U8 x):∃n:Nat,x=n/\n<256:=⟨x.toNat,by have:=h.1;omega,by have:=h.1;have:=h.2;omega⟩
theorem tq.nat{x:Int}(h:tq x):∃n:Nat,x=n/\n<4294967296:=⟨x.toNat,by have:=h.1;omega,by have:=h.1;have:=h.2;omega⟩
theorem iB.nat{x:Int}(h:iB x):∃n:Nat,x=n/\n<18446744073709551616:=⟨x.toNat,by have:=h.1;omega,by have:=h.1;have:=h.2;omega⟩
theorem Xt{x:Row}(h:x.b)(l:List Nat):DD (dn (tX x)++l)=(x,l):=by
 obtain⟨k,v⟩:=x;obtain⟨k,rfl,hk⟩:=iB.nat (h.k:iB k);obtain⟨v,rfl,hv⟩:=iB.nat (h.v:iB v);unfold DD tX;rw[eQ,Jd4,Hg hk,Hg hv]
theorem M8{x:ag}(h:x.b)(ho:lJ x=true)(l:List Nat):qH (dn (mK x)++l)=(x,l):=by
 obtain⟨c,s,key,k,fo,v,g⟩:=x;obtain⟨c,rfl,hc⟩:=U8.nat (h.c:U8 c);obtain⟨s,rfl,hs⟩:=tq.nat (h.s:tq s);obtain⟨key,rfl,hkey⟩:=iB.nat (h.key:iB key);obtain⟨k,rfl,hk⟩:=U8.nat (h.k:U8 k);obtain⟨v,rfl,hv⟩:=iB.nat (h.v:iB v);obtain⟨g,rfl,hg⟩:=U8.nat (h.g:U8 g);unfold lJ at ho;unfold qH mK;dsimp only at ho |-;simp only[eQ,Jd4];rw[qQ hc,M7 hs,Hg hkey,qQ hk];by_cases k1:k=1
 .subst k1
  rw[Jb6 rfl,Jb6 (show((1:Nat):Int)=1 from rfl),eQ];simp at ho;cases fo with
  |true =>
   have e:Dw true=[((1:Nat):Int)]:=rfl;rw[e,Jb6 rfl,Jd4,qQ (by decide),Jb5 (by decide),Hg hv];have:g=0:=by omega
   subst this;rfl
  |false =>
   have e:Dw false=[((0:Nat):Int)]:=rfl;rw[e,Jb5 (by decide),Jd4,qQ (by decide),Jb6 rfl];have:g=0:=by omega
   have:v=0:=by simp at ho;omega
   subst g v;rfl
 .rw[Jb5 k1,Jb5 (show ¬(k:Int)=1 by omega)]
  by_cases k3:k=3
  .subst k3
   rw[Jb6 rfl,Jb6 (show((3:Nat):Int)=3 from rfl),qQ hg];simp at ho;have:v=0:=by omega
   have:fo=false:=ho.2.2.1;subst v fo;rfl
  .rw[Jb5 k3,Jb5 (show ¬(k:Int)=3 by omega)]
   rw[Jb5 (show ¬(k:Int)=1 by omega),Jb5 (show ¬(k:Int)=3 by omega)]at ho;simp only[Jdy]at ho;have ho:=ho.2;split at ho
   .simp at ho
    have:v=0:=by omega
    have:g=0:=by omega
    have:fo=false:=ho.1;subst v g fo;rfl
   .cases ho
theorem M9{x:aW}(h:x.b)(ho:fV x=true)(l:List Nat):qG (dn (vg x)++l)=(x,l):=by
 obtain⟨c,s,k,key,v,hi,to⟩:=x;obtain⟨c,rfl,hc⟩:=U8.nat (h.c:U8 c);obtain⟨s,rfl,hs⟩:=tq.nat (h.s:tq s);obtain⟨key,rfl,hkey⟩:=iB.nat (h.key:iB key);obtain⟨k,rfl,hk⟩:=U8.nat (h.k:U8 k);obtain⟨v,rfl,hv⟩:=iB.nat (h.v:iB v);obtain⟨hi,rfl,hhi⟩:=iB.nat (h.hi:iB hi);obtain⟨to,rfl,hto⟩:=U8.nat (h.to:U8 to);unfold fV at ho;unfold qG vg;dsimp only at ho |-;simp only[eQ,Jd4];rw[qQ hc,M7 hs,qQ hk,Hg hkey];by_cases k2:k=2
 .subst k2
  rw[Jb6 rfl,Jb6 (show((2:Nat):Int)=2 from rfl),Hg hv];simp at ho;have:hi=0:=by omega
  have:to=0:=by omega
  subst hi to;rfl
 .rw[Jb5 k2,Jb5 (show ¬(k:Int)=2 by omega)]
  by_cases k4:k=4
  .subst k4
   rw[Jb6 rfl,Jb6 (show((4:Nat):Int)=4 from rfl),eQ,Jd4,Hg hhi,qQ hto];simp at ho;have:v=0:=by omega
   subst v;rfl
  .rw[Jb5 k4,Jb5 (show ¬(k:Int)=4 by omega)]
   simp only[Jdy]at ho;have ho:=ho.2;split at ho
   .simp at ho
    have:hi=0:=by omega
    have:to=0:=by omega
    have:v=0:=by omega
    subst hi to v;rfl
   .rw[Jb5 (show ¬(k:Int)=2 by omega),Jb5 (show ¬(k:Int)=4 by omega)]at ho
    cases ho
theorem Na{α:Type}{f:List Nat->α×List Nat}{e:α->List Int}{g:α->α}:∀{xs:List α},(∀x∈xs,∀l,f (dn (e x)++l)=(g x,l))->(∀x,e x≠[])->∀l,tK f xs.length (dn (xs.map e).flatten++l)=(xs.map g,l)
 | [],_,_,l=>rfl
 |x::xs,h,ne,l=>by
  rw[Jcj,Jfw,eQ,Jd4,length_cons,Fj (h x (Jb4) _) (λc=>ne x (by have:=(append_eq_nil_iff.1 c).1;exact map_eq_nil_iff.1 this)),Na (λy hy=>h y (Jb2 _ hy)) ne l];rfl
theorem CQ{α:Type}{f:List Nat->α×List Nat}{e:α->List Int}{g:α->α}{xs:List α}(h:∀x∈xs,∀l,f (dn (e x)++l)=(g x,l))(ne:∀x,e x≠[])(hl:xs.length<=255)(l:List Nat):lZ f (dn ([(xs.length:Int)]++(xs.map e).flatten)++l)=(xs.map g,l):=by
 unfold lZ;rw[eQ,Jd4,qQ (by omega),Na h ne]
theorem PE{x:Rg}(h:x.b)(ho:nY x=true)(l:List Nat):CE (dn (GL x)++l)=(x,l):=by
 have sm:=Fs ho;have hp:∀p∈x.aX,lJ p=true:=λp hp=>by
  unfold nY Aq kr at ho;simp only[Jdy,Jdr]at ho;obtain⟨i,hi,rfl⟩:=Jga hp;have:=all_eq_true.1 ho.2.2.2.2.2.2 i (Jc3.2 hi);unfold xU at this;rw[Jcc hi]at this;simp only[Jdy]at this;exact this.1.1
 obtain⟨src,dst,seq,lo,hi,rows,aX⟩:=x;have hrows:∀x∈rows,x.b:=h.rows;have Rx:∀x∈aX,x.b:=h.aX;have l1:rows.length<=255:=sm.1;have l2:aX.length<=255:=sm.2;obtain⟨src,rfl,hsrc⟩:=U8.nat (h.src:U8 src);obtain⟨dst,rfl,hdst⟩:=U8.nat (h.dst:U8 dst);obtain⟨seq,rfl,hseq⟩:=tq.nat (h.seq:tq seq);obtain⟨lo,rfl,hlo⟩:=iB.nat (h.lo:iB lo);obtain⟨hi,rfl,hhi⟩:=iB.nat (h.hi:iB hi);unfold CE GL;dsimp only;rw[eQ,eQ,eQ,eQ,eQ,eQ];simp only[Jd4];rw[qQ hsrc,qQ hdst,M7 hseq,Hg hlo,Hg hhi,dU (CQ (e:=tX) (g:=id) (λx hx=>Xt (hrows x hx)) (λx=>by simp[tX,b64,b32]) l1 _),dU (CQ (e:=mK) (g:=id) (λx hx=>M8 (Rx x hx) (hp x hx)) (λx=>by simp[mK]) l2 _)];simp
theorem RB{q:aW}(h:qp q=true):q=vG:=by
 obtain⟨c,s,k,key,v,hi,to⟩:=q;unfold qp at h;simp at h;obtain⟨rfl,rfl,rfl,rfl,rfl,rfl,rfl⟩:=h;rfl
theorem RD{r:Rg}(h:uS r=true):r=uP:=by
 obtain⟨src,dst,seq,lo,hi,rows,aX⟩:=r;unfold uS at h;simp at h;obtain⟨rfl,rfl,rfl,rfl,rfl,rfl,rfl⟩:=h;rfl
theorem Fu{N:Nat}{c:MC}(h:iE N c)(ho:mi c=true)(l:List Nat):oh (dn (nN c)++l)=(c,l):=by
 obtain⟨k,q,r,p,s⟩:=c;have hq:q.b:=h.q;have hr:r.b:=h.r;obtain⟨k,rfl,hk⟩:=U8.nat (h.kind:U8 k);obtain⟨p,rfl,hp⟩:=U8.nat (h.peer:U8 p);obtain⟨s,rfl,hs⟩:=tq.nat (h.seq:tq s);unfold mi zn at ho;unfold oh nN;dsimp only at ho |-;rw[eQ,Jd4,qQ hk];by_cases k0:k=0
 .subst k0
  rw[Jb6 (show((0:Nat):Int)=0 from rfl)]at ho;simp only[Jdy,Jfc]at ho;obtain⟨h1,h2,h3,h4⟩:=ho;have h3:p=0:=by omega
  have h4:s=0:=by omega
  rw[RB h1,RD h2,h3,h4];rfl
 rw[Jb5 (by omega)]at ho;by_cases k1:k=1
 .subst k1
  rw[Jb6 (show((1:Nat):Int)=1 from rfl)]at ho;simp only[Jdy,Jfc]at ho;obtain⟨h1,h2,h3,h4⟩:=ho;have h3:p=0:=by omega
  have h4:s=0:=by omega
  rw[Jb6 rfl,Jb6 (show((1:Nat):Int)=1 from rfl),dU (M9 hq h1 l),RD h2,h3,h4];rfl
 rw[Jb5 (by omega)]at ho;rw[Jb5 k1,Jb5 (show ¬(k:Int)=1 by omega)];by_cases k2:k=2
 .subst k2
  rw[Jb6 (show((2:Nat):Int)=2 from rfl)]at ho;simp only[Jdy,Jfc]at ho;obtain⟨h1,h2,h3,h4⟩:=ho;have h3:p=0:=by omega
  have h4:s=0:=by omega
  rw[Jb6 rfl,Jb6 (show((2:Nat):Int)=2 from rfl),dU (PE hr h1 l),RB h2,h3,h4];rfl
 rw[Jb5 (by omega)]at ho;rw[Jb5 k2,Jb5 (show ¬(k:Int)=2 by omega)];by_cases k3:k=3
 .subst k3
  rw[Jb6 (show((3:Nat):Int)=3 from rfl)]at ho;simp only[Jdy]at ho;obtain⟨h1,h2,h3⟩:=ho;rw[Jb6 rfl,Jb6 (show((3:Nat):Int)=3 from rfl),eQ,Jd4,qQ hp,M7 hs,RB h2,RD h3]
 rw[Jb5 (by omega)]at ho;cases ho
theorem uh(n i:Nat)(l:List Nat):iN (dn (fw n i)++l)=(⟨n%4294967296,i%256⟩,l):=by
 unfold iN fw;rw[eQ,Jd4,PD,YM]
theorem UM{N:Nat}{v:MV}(h:iE N v.c)(ho:mi v.c=true)(l:List Nat):oO (dn (lK v)++l)=(⟨v.slot%4294967296,⟨v.b.n%4294967296,v.b.id%256⟩,v.c⟩,l):=by
 unfold oO lK;rw[eQ,eQ,Jd4,Jd4,PD,dU (uh _ _ _),dU (Fu h ho l)]
structure Ask where
 q:aW
 g:Nat
 p:Nat
def Ask.cells(a:Ask):List Value:=a.q.cells++[.int .u8 a.g,.int .i64 a.p]
structure Sit where
 C:aJ
 asks:List Ask
 bz:List (List MC)
 len:List Nat
 fell:List Bool
 next:Nat
 bad:Bool
structure zz where
 (aq bq lq fq:Value)
 bv:List Value
def fD(bc:Nat)(S:Sit)(a:zz):List Value:=[Ptt bc,.int .i64 S.C.n,.int .i64 S.C.sz,a.aq,a.bq,a.lq,a.fq,.int .i64 S.next,.bool S.bad]
def yK(bs:Nat)(a:zz)(x:Nat):Prop:=x=bs\/a.aq.ownBlock=some x\/a.bq.ownBlock=some x\/a.lq.ownBlock=some x\/a.fq.ownBlock=some x\/∃v∈a.bv,v.ownBlock=some x
structure pX(w:World)(bs bc:Nat)(S:Sit)(a:zz):Prop where
 mem:Hl w bs (fD bc S a) 44
 ak:w.ownsRow 0 67 9 a.aq S.asks.length (S.asks.map Ask.cells).flatten
 be:w.ownsRow 0 57 1 a.bq S.bz.length a.bv
 bl:a.bv.length=S.bz.length
 bi:∀(g:Nat) (l:List MC) (v:Value),S.bz[g]?=some l->a.bv[g]?=some v->jL w v l
 le:w.ownsRow 0 3 1 a.lq S.len.length (S.len.map λk=>Value.int .i64 (k:Nat))
 fe:w.ownsRow 0 4 1 a.fq S.fell.length (S.fell.map Value.bool)
def YQ:List Nat:=[44,67,57,3,4,80]
section
variable{w w':World}{bs bc:Nat}{S S':Sit}{a a':zz}
theorem pX.typ(h:pX w bs bc S a){x:Nat}(hx:yK bs a x):∃c t,w.heap[x]?=some (.cells c t)/\t∈YQ:=by
 rcases hx with rfl|hx|hx|hx|hx|⟨v,hv,hx⟩
 .exact⟨_,_,h.mem,by decide⟩
 .obtain⟨c,hc⟩:=au h.ak hx;exact⟨_,_,hc,by decide⟩
 .obtain⟨c,hc⟩:=au h.be hx;exact⟨_,_,hc,by decide⟩
 .obtain⟨c,hc⟩:=au h.le hx;exact⟨_,_,hc,by decide⟩
 .obtain⟨c,hc⟩:=au h.fe hx;exact⟨_,_,hc,by decide⟩
 .obtain⟨g,hg⟩:=Jdf.1 hv
  have hl:g<S.bz.length:=by rw[<-h.bl];exact(Jcn.1 hg).1
  obtain⟨c,hc⟩:=(h.bi g S.bz[g] v (by simp[hl]) hg).obj hx;exact⟨_,_,hc,by decide⟩
theorem pX.lt(h:pX w bs bc S a){x:Nat}(hx:yK bs a x):x<w.heap.size:=by obtain⟨c,t,hc,_⟩:=h.typ hx;exact ae hc
theorem pX.keep(h:pX w bs bc S a)(k:Kz w w')(hb:∀x,yK bs a x->w'.heap[x]?=w.heap[x]?):pX w' bs bc S a :=
 ⟨(hb bs (.inl rfl)).trans h.mem,ax h.ak λg hg=>hb g (.inr (.inl hg)),ax h.be λg hg=>hb g (.inr (.inr (.inl hg))),h.bl,λg l v hl hv=>(h.bi g l v hl hv).kz k λx hx=>hb x (.inr (.inr (.inr (.inr (.inr ⟨v,Jcv hv,hx⟩))))),ax h.le λg hg=>hb g (.inr (.inr (.inr (.inl hg)))),ax h.fe λg hg=>hb g (.inr (.inr (.inr (.inr (.inl hg)))))⟩
theorem UN{t:Nat}(h:t∈YQ):t ∉ OO/\t ∉ O5:=by
 unfold YQ at h;simp only[Jb3,Jbw,Jbx]at h;rcases h with rfl|rfl|rfl|rfl|rfl|rfl<;>decide
end
section
variable{w w':World}{bc:Nat}{gv sv:Value}{q:List bF}{n sz:Nat}{B:Nat->Nat->Nat}{ad:Nat->Nat->gD}{F:Nat->Nat->MR}
theorem CI.keep(h:CI w bc gv sv q n sz B ad F)(k:Kz w w')(hb:∀x,nO n sz B bc sv ad x->w'.heap[x]?=w.heap[x]?)(hp:∀(x:Nat) (c:Array Value) (t:TypeId),t∈O5->w.heap[x]?=some (Obj.cells c t)->w'.heap[x]?=some (Obj.cells c t)):CI w' bc gv sv q n sz B ad F:=by
 obtain⟨bg,cg,cur,tg,e1,e2,e3,e4,e5⟩:=h.ptr;refine⟨(hb bc (.inl rfl)).trans h.fu,ax h.row λx hx=>hb x (.inr (.inl hx)),h.len,⟨bg,cg,cur,tg,e1,e2,hp _ _ _ e4 e3,e4,λg hg=>?_⟩,λg i hg hi=>(h.rep g i hg hi).keep k λx hx=>hb x (.inr (.inr ⟨g,i,hg,hi,hx⟩)),h.sep,h.ob⟩;obtain⟨bs,ct,cur',ts,f1,f2,f3,f4,f5⟩:=e5 g hg;exact⟨bs,ct,cur',ts,f1,f2,hp _ _ _ f4 f3,f4,f5⟩
end
structure iI(Λ:bW)(bs bc:Nat)(S:Sit)(a:zz)(gv sv:Value)(B:Nat->Nat->Nat)(ad:Nat->Nat->gD)(w:World):Prop where
 si:pX w bs bc S a
 ci:CI w bc gv sv S.C.q S.C.n S.C.sz B ad S.C.F
 dj:∀x,yK bs a x->¬nO S.C.n S.C.sz B bc sv ad x
 pr:∀b o,Λ.pr b=some o->w.heap[b]?=some o/\¬yK bs a b/\¬nO S.C.n S.C.sz B bc sv ad b
 os:w.os=Λ.os
 out:w.output=Λ.out
def dX(Λ:bW)(bs:Nat)(S:Sit)(w:World):Prop:=∃bc a gv sv B ad,iI Λ bs bc S a gv sv B ad w
open Classical in
noncomputable def AU(w:World)(n sz:Nat)(B:Nat->Nat->Nat)(bc:Nat)(sv:Value)(ad:Nat->Nat->gD):bW:=⟨λb=>if nO n sz B bc sv ad b then none else w.heap[b]?,w.os,w.output⟩
section
variable{Λ:bW}{w w':World}{bs bc:Nat}{S S':Sit}{a a':zz}{gv sv:Value}{B:Nat->Nat->Nat}{ad:Nat->Nat->gD}
theorem iI.ay(h:iI Λ bs bc S a gv sv B ad w)(g:GB none w w'):iI Λ bs bc S a gv sv B ad w':=⟨h.si.keep g.kz λx hx=>g.block x (h.si.lt hx) nofun,h.ci.ay g,h.dj,λb o hb=>⟨g.get (h.pr b o hb).1 nofun,(h.pr b o hb).2⟩,g.os.trans h.os,g.out.trans h.out⟩
theorem dX.ay(h:dX Λ bs S w)(g:GB none w w'):dX Λ bs S w':=by obtain⟨bc,a,gv,sv,B,ad,h⟩:=h;exact⟨bc,a,gv,sv,B,ad,h.ay g⟩
theorem iI.enter(h:iI Λ bs bc S a gv sv B ad w):vL (AU w S.C.n S.C.sz B bc sv ad) bc S.C w:=by
 refine⟨gv,sv,B,ad,h.ci,λb o hb=>?_,rfl,rfl⟩;unfold AU at hb;dsimp only at hb;split at hb
 .cases hb
 .rename_i hn;exact⟨hb,hn⟩
theorem iI.leave(h:iI Λ bs bc S a gv sv B ad w){C':aJ}(hn:C'.n=S.C.n)(hz:C'.sz=S.C.sz)(hc:vL (AU w S.C.n S.C.sz B bc sv ad) bc C' w')(k:Kz w w'):dX Λ bs {S with C:=C'} w':=by
 obtain⟨Uh,bX,B',jV,h'⟩:=hc;have kp:∀{x:Nat} {o:Obj},w.heap[x]?=some o->¬nO S.C.n S.C.sz B bc sv ad x->w'.heap[x]?=some o/\¬nO C'.n C'.sz B' bc bX jV x:=λ{x o} hx hno=>h'.pr x o (by unfold AU;dsimp only;rw[Jb5 hno];exact hx)
 have ks:∀x,yK bs a x->w'.heap[x]?=w.heap[x]?/\¬nO C'.n C'.sz B' bc bX jV x:=λx hx=>by
  obtain⟨c,t,h1,_⟩:=h.si.typ hx;obtain⟨h2,h3⟩:=kp h1 (h.dj x hx);exact⟨h2.trans h1.symm,h3⟩
 have s':=h.si.keep k λx hx=>(ks x hx).1
 refine⟨bc,a,Uh,bX,B',jV,⟨⟨?_,s'.ak,s'.be,s'.bl,s'.bi,s'.le,s'.fe⟩,h'.ci,λx hx=>(ks x hx).2,λb o hb=>?_,h'.os.trans h.os,h'.out.trans h.out⟩⟩
 .have e:fD bc {S with C:=C'} a=fD bc S a:=by unfold fD;dsimp only;rw[hn,hz]
  rw[e];exact s'.mem
 .obtain⟨p1,p2,p3⟩:=h.pr b o hb
  obtain⟨q1,q2⟩:=kp p1 p3;exact⟨q1,p2,q2⟩
end
def bE(c:Int)(n:Nat):Nat:=(if c<0 then(-c-1).toNat else c.toNat)%n
theorem jE(c:Int){n:Nat}(h:0<n):bE c n<n:=Nat.mod_lt _ h
theorem AV(a:Nat)(n:Nat):((a:Int)).tmod n=((a%n:Nat):Int):=by
 rw[Int.tmod_eq_emod_of_nonneg (Jg7 _)];omega
theorem rA(w:World)(c:Int)(n:Nat)(hn:0<n)(h0 : -9223372036854775808<=c)(h1:c<9223372036854775808):CY 46 #[.int .i64 c,.int .i64 n] w (λv w'=>v=.int .i64 (bE c n)/\w'=w):=by
 refine aj Tryz.func46 rfl rfl ?_;refine ah (λd=>?_) (λd=>?_)
 .have d1:c<0:=Ptq d
  refine⟨by omega,by omega,by omega,?_,rfl⟩;unfold bE;rw[Jb6 d1,show(0-(c+1):Int)=((-c-1).toNat:Int)by omega,AV]
 .have d1:¬c<0:=Ptx d
  refine⟨by omega,?_,rfl⟩;unfold bE;rw[Jb5 d1,show c=(c.toNat:Int)by omega,AV,Jfa]
def bf(C:aJ)(k:Int):Nat:=bE k (C.n*C.sz) / C.sz
def bQ(C:aJ)(k:Int):Nat:=bE k (C.n*C.sz)%C.sz
theorem AX{C:aJ}{k:Int}(hn:0<C.n)(hs:0<C.sz):bf C k<C.n/\bQ C k<C.sz:=by
 have h:=jE k (Nat.mul_pos hn hs);refine⟨?_,Nat.mod_lt _ hs⟩;unfold bf;rw[Nat.div_lt_iff_lt_mul hs];exact h
section
variable{w:World}{bs bc:Nat}{S:Sit}{a:zz}
theorem PH(hm:Hl w bs (fD bc S a) 44)(hn:0<S.C.n/\S.C.n<=4)(hs:0<S.C.sz/\S.C.sz<=5)(k:Int)(h0 : -9223372036854775808<=k)(h1:k<9223372036854775808):CY 23 #[Ptt bs,.int .i64 k] w (λv w'=>v=.agg #[.int .u8 (bf S.C k),.int .u8 (bQ S.C k)]/\GB none w w'):=by
 refine aj Tryz.func23 rfl rfl ?_;refine λw1 b1 m1 g1 l1=>?_
 have hm1:=g1.get hm nofun;have hp:0<S.C.n*S.C.sz:=Nat.mul_pos hn.1 hs.1;have hle:S.C.n*S.C.sz<=20:=Jf9 hn.2 hs.2;have hj:=jE k hp;obtain⟨q1,q2⟩:=AX (k:=k) hn.1 hs.1;have pk:=rA w1 k (S.C.n*S.C.sz) hp h0 h1;rw[Jf4]at pk;have ajT:(S.C.n:Int)*S.C.sz<=20:=by rw[<-Jf4];omega
 have hge':(0:Int)<=(S.C.n:Int)*S.C.sz:=by rw[<-Jf4];omega
 refine⟨by kernel_rfl,_,_,hm1,_,rfl,_,_,hm1,_,rfl,by omega,_,pk,?_⟩;rintro _ w2 ⟨rfl,rfl⟩;have hq:IntKind.i64.wrap (((bE k (S.C.n*S.C.sz):Nat):Int).tdiv (S.C.sz:Int))=((bf S.C k:Nat):Int):=by
  have e:((bE k (S.C.n*S.C.sz):Nat):Int).tdiv (S.C.sz:Int)=((bf S.C k:Nat):Int):=by
   rw[Int.tdiv_eq_ediv_of_nonneg (Jg7 _)];unfold bf;omega
  rw[e,Go.IntWalk.i64_in _ ⟨by omega,by omega⟩]
 have hr:((bE k (S.C.n*S.C.sz):Nat):Int).tmod (S.C.sz:Int)=((bQ S.C k:Nat):Int):=by rw[AV];rfl
 have nz:((S.C.sz:Nat):Int)≠0:=by omega
 refine⟨by kernel_rfl,_,_,hm1,_,rfl,nz,.inl ⟨⟨by rw[hq];omega,by rw[hq];omega⟩,_,_,hm1,_,rfl,nz,.inl ⟨⟨by rw[hr];omega,by rw[hr];omega⟩,?_⟩⟩⟩;rw[hq,hr];refine⟨_,_,_,m1,rfl,rfl,λw3 m3 g3=>?_⟩;exact⟨_,_,m3,[.int .u8 (bf S.C k),.int .u8 (bQ S.C k)],rfl,rfl,rfl,g1.new g3 l1⟩
end
def jQ(k:Int):Int:=if k.tmod 11==10 then 18446744073709551615 else k.tmod 11
theorem CR(w:World)(k:Int):CY 10 #[.int .u64 k] w (λv w'=>v=.int .u64 (jQ k)/\w'=w):=by
 refine aj Tryz.func10 rfl rfl ?_;unfold jQ;refine⟨by decide,ah (λc=>?_) (λc=>?_)⟩
 .have c1:(k.tmod 11==10)=true:=c
  exact⟨by rw[Jb6 c1],rfl⟩
 .have c1:¬(k.tmod 11==10)=true:=λe=>by have:(k.tmod 11==10)=false:=c;rw[this]at e;cases e
  exact⟨by decide,by rw[Jb5 c1],rfl⟩
def dh(q:aW):aW:=⟨q.c.tmod 3,1+q.s.tmod 9,1+q.k.tmod 4,jQ q.key,if(1+q.k.tmod 4==2)=true then q.v else 0,if(1+q.k.tmod 4==4)=true then(if jQ q.hi<jQ q.key then jQ q.key else jQ q.hi)else 0,if(1+q.k.tmod 4==4)=true then q.to.tmod 4 else 0⟩
theorem Xu(w:World)(q:aW)(hs:0<=q.s)(hk:0<=q.k):CY 52 #[.agg q.cells.toArray] w (λv w'=>v=.agg (dh q).cells.toArray/\GB none w w'):=by
 refine aj Tryz.func52 rfl rfl ?_;refine λw1 b1 m1 g1 l1 w2 b2 m2 g2 l2=>?_
 have m12:=g2.get m1 nofun;have s9:0<=q.s.tmod 9/\q.s.tmod 9<9:=⟨Int.tmod_nonneg _ hs,Int.tmod_lt_of_pos _ (by decide)⟩;have k4:0<=q.k.tmod 4/\q.k.tmod 4<4:=⟨Int.tmod_nonneg _ hk,Int.tmod_lt_of_pos _ (by decide)⟩;refine⟨by kernel_rfl,?_⟩;refine⟨_,_,m12,_,rfl,by decide,_,_,m12,_,rfl,by decide,by omega,_,_,m12,_,rfl,by decide,by omega,_,_,m12,_,rfl,?_⟩;refine⟨⟨_,CR w2 q.key,?_⟩,λw3 b3 m3 g3 l3=>?_⟩
 .rintro _ w2 ⟨rfl,rfl⟩
  refine⟨⟨m12,m12,m12,m12,trivial⟩,λw3 b3 m3 g3 l3=>⟨⟨g3.get m12 nofun,g3.get m12 nofun,g3.get m12 nofun,g3.get m12 nofun,trivial⟩,_,_,_,m3,rfl,rfl,λw4 m4 g4=>?_⟩⟩;have uQ:GB none w2 w4:=g3.new g4 l3;have m14:w4.heap[b1]?=_:=uQ.get m12 nofun;have m24:w4.heap[b2]?=_:=uQ.get m2 nofun;have CU:b2≠b3:=by have:=ae m2;omega
  have UO:b1≠b3:=by have:=ae m12;omega
  refine⟨_,_,m4,_,rfl,ah (λc=>?_) (λc=>?_)⟩
  .have c1:(1+q.k.tmod 4==2)=true:=c
   have c2:¬(1+q.k.tmod 4==4)=true:=λe=>by have:=eq_of_beq c1;have:=eq_of_beq e;omega
   refine⟨_,_,m14,_,rfl,_,_,_,m4,rfl,rfl,λw5 m5 g5=>?_⟩;have vN:w5.heap[b2]?=_:=g5.get m24 λe=>CU (Jbm e)
   refine⟨_,_,m5,(dh q).cells,by unfold dh;rw[Jb6 c1,Jb5 c2,Jb5 c2];rfl,rfl,_,_,_,vN,rfl,rfl,λw6 m6 g6=>?_⟩;exact⟨_,_,m6,(dh q).cells,rfl,rfl,rfl,(g1.trans ((g2.trans (uQ.new g5 l3)))).new g6 (by have:=g1.size;omega)⟩
  .have c1:¬(1+q.k.tmod 4==2)=true:=λe=>by have:(1+q.k.tmod 4==2)=false:=c;rw[this]at e;cases e
   refine ah (λd=>?_) (λd=>?_)
   .have c2:(1+q.k.tmod 4==4)=true:=d
    refine⟨_,_,m14,_,rfl,_,CR w4 q.hi,?_⟩;rintro _ w5 ⟨rfl,rfl⟩;refine⟨_,_,_,m4,rfl,rfl,λw5 m5 g5=>?_⟩;have m15:w5.heap[b1]?=_:=g5.get m14 λe=>UO (Jbm e)
    have vN:w5.heap[b2]?=_:=g5.get m24 λe=>CU (Jbm e)
    refine⟨_,_,m5,_,rfl,_,_,m5,_,rfl,ah (λx=>?_) (λx=>?_)⟩
    .have x1:jQ q.hi<jQ q.key:=Ptq x
     refine⟨_,_,m5,_,rfl,_,_,_,m5,rfl,rfl,λw6 m6 g6=>?_⟩;have m16:w6.heap[b1]?=_:=g6.get m15 λe=>UO (Jbm e)
     have m26:w6.heap[b2]?=_:=g6.get vN λe=>CU (Jbm e)
     refine⟨_,_,m16,_,rfl,by decide,_,_,_,m6,rfl,rfl,λw7 m7 g7=>?_⟩;have JY:w7.heap[b2]?=_:=g7.get m26 λe=>CU (Jbm e)
     refine⟨_,_,m7,(dh q).cells,by unfold dh;rw[Jb5 c1,Jb6 c2,Jb6 x1,Jb6 c2];rfl,rfl,_,_,_,JY,rfl,rfl,λw8 m8 g8=>?_⟩;exact⟨_,_,m8,(dh q).cells,rfl,rfl,rfl,(g1.trans ((g2.trans (((uQ.new g5 l3).new g6 l3).new g7 l3)))).new g8 (by have:=g1.size;omega)⟩
    .have x1:¬jQ q.hi<jQ q.key:=Ptx x
     refine⟨_,_,m15,_,rfl,by decide,_,_,_,m5,rfl,rfl,λw7 m7 g7=>?_⟩;have JY:w7.heap[b2]?=_:=g7.get vN λe=>CU (Jbm e)
     refine⟨_,_,m7,(dh q).cells,by unfold dh;rw[Jb5 c1,Jb6 c2,Jb5 x1,Jb6 c2];rfl,rfl,_,_,_,JY,rfl,rfl,λw8 m8 g8=>?_⟩;exact⟨_,_,m8,(dh q).cells,rfl,rfl,rfl,(g1.trans ((g2.trans ((uQ.new g5 l3).new g7 l3)))).new g8 (by have:=g1.size;omega)⟩
   .have c2:¬(1+q.k.tmod 4==4)=true:=λe=>by have:(1+q.k.tmod 4==4)=false:=d;rw[this]at e;cases e
    refine⟨_,_,m4,(dh q).cells,by unfold dh;rw[Jb5 c1,Jb5 c2,Jb5 c2];rfl,rfl,_,_,_,m24,rfl,rfl,λw6 m6 g6=>?_⟩;exact⟨_,_,m6,(dh q).cells,rfl,rfl,rfl,(g1.trans (g2.trans uQ)).new g6 (by have:=g1.size;omega)⟩
 .have m13:=g3.get m12 nofun
  refine⟨⟨m13,m13,m13,m13,trivial⟩,_,CR w3 q.key,?_⟩;rintro _ w4 ⟨rfl,rfl⟩;refine⟨⟨m13,m13,m13,m13,trivial⟩,_,_,_,m3,rfl,rfl,λw4 m4 g4=>?_⟩;have uQ:GB none w2 w4:=g3.new g4 l3;have m14:w4.heap[b1]?=_:=uQ.get m12 nofun;have m24:w4.heap[b2]?=_:=uQ.get m2 nofun;have CU:b2≠b3:=by have:=ae m2;omega
  have UO:b1≠b3:=by have:=ae m12;omega
  refine⟨_,_,m4,_,rfl,ah (λc=>?_) (λc=>?_)⟩
  .have c1:(1+q.k.tmod 4==2)=true:=c
   have c2:¬(1+q.k.tmod 4==4)=true:=λe=>by have:=eq_of_beq c1;have:=eq_of_beq e;omega
   refine⟨_,_,m14,_,rfl,_,_,_,m4,rfl,rfl,λw5 m5 g5=>?_⟩;have vN:w5.heap[b2]?=_:=g5.get m24 λe=>CU (Jbm e)
   refine⟨_,_,m5,(dh q).cells,by unfold dh;rw[Jb6 c1,Jb5 c2,Jb5 c2];rfl,rfl,_,_,_,vN,rfl,rfl,λw6 m6 g6=>?_⟩;exact⟨_,_,m6,(dh q).cells,rfl,rfl,rfl,(g1.trans ((g2.trans (uQ.new g5 l3)))).new g6 (by have:=g1.size;omega)⟩
  .have c1:¬(1+q.k.tmod 4==2)=true:=λe=>by have:(1+q.k.tmod 4==2)=false:=c;rw[this]at e;cases e
   refine ah (λd=>?_) (λd=>?_)
   .have c2:(1+q.k.tmod 4==4)=true:=d
    refine⟨_,_,m14,_,rfl,_,CR w4 q.hi,?_⟩;rintro _ w5 ⟨rfl,rfl⟩;refine⟨_,_,_,m4,rfl,rfl,λw5 m5 g5=>?_⟩;have m15:w5.heap[b1]?=_:=g5.get m14 λe=>UO (Jbm e)
    have vN:w5.heap[b2]?=_:=g5.get m24 λe=>CU (Jbm e)
    refine⟨_,_,m5,_,rfl,_,_,m5,_,rfl,ah (λx=>?_) (λx=>?_)⟩
    .have x1:jQ q.hi<jQ q.key:=Ptq x
     refine⟨_,_,m5,_,rfl,_,_,_,m5,rfl,rfl,λw6 m6 g6=>?_⟩;have m16:w6.heap[b1]?=_:=g6.get m15 λe=>UO (Jbm e)
     have m26:w6.heap[b2]?=_:=g6.get vN λe=>CU (Jbm e)
     refine⟨_,_,m16,_,rfl,by decide,_,_,_,m6,rfl,rfl,λw7 m7 g7=>?_⟩;have JY:w7.heap[b2]?=_:=g7.get m26 λe=>CU (Jbm e)
     refine⟨_,_,m7,(dh q).cells,by unfold dh;rw[Jb5 c1,Jb6 c2,Jb6 x1,Jb6 c2];rfl,rfl,_,_,_,JY,rfl,rfl,λw8 m8 g8=>?_⟩;exact⟨_,_,m8,(dh q).cells,rfl,rfl,rfl,(g1.trans ((g2.trans (((uQ.new g5 l3).new g6 l3).new g7 l3)))).new g8 (by have:=g1.size;omega)⟩
    .have x1:¬jQ q.hi<jQ q.key:=Ptx x
     refine⟨_,_,m15,_,rfl,by decide,_,_,_,m5,rfl,rfl,λw7 m7 g7=>?_⟩;have JY:w7.heap[b2]?=_:=g7.get vN λe=>CU (Jbm e)
     refine⟨_,_,m7,(dh q).cells,by unfold dh;rw[Jb5 c1,Jb6 c2,Jb5 x1,Jb6 c2];rfl,rfl,_,_,_,JY,rfl,rfl,λw8 m8 g8=>?_⟩;exact⟨_,_,m8,(dh q).cells,rfl,rfl,rfl,(g1.trans ((g2.trans ((uQ.new g5 l3).new g7 l3)))).new g8 (by have:=g1.size;omega)⟩
   .have c2:¬(1+q.k.tmod 4==4)=true:=λe=>by have:(1+q.k.tmod 4==4)=false:=d;rw[this]at e;cases e
    refine⟨_,_,m4,(dh q).cells,by unfold dh;rw[Jb5 c1,Jb5 c2,Jb5 c2];rfl,rfl,_,_,_,m24,rfl,rfl,λw6 m6 g6=>?_⟩;exact⟨_,_,m6,(dh q).cells,rfl,rfl,rfl,(g1.trans (g2.trans uQ)).new g6 (by have:=g1.size;omega)⟩
section
variable{Λ:bW}{w w' w1 w2:World}{bs bc:Nat}{S S':Sit}{a a':zz}{gv sv:Value}{B:Nat->Nat->Nat}{ad:Nat->Nat->gD}
theorem GS.of{P:Nat->Prop}{r:Option Nat}(g:GB r w w')(hr:∀x,r=some x->P x):GS P w w':=⟨g.os,g.out,g.size,λx hx hn=>g.block x hx λe=>hn (hr x e.symm)⟩
theorem GS.then{P:Nat->Prop}{r:Option Nat}(h:GS P w w1)(g:GB r w1 w2)(hr:∀x,r=some x->P x):GS P w w2:=⟨g.os.trans h.os,g.out.trans h.out,Jb1 h.size g.size,λx hx hn=>(g.block x (Jbz hx h.size) λe=>hn (hr x e.symm)).trans (h.block x hx hn)⟩
theorem iI.gs(h:iI Λ bs bc S a gv sv B ad w)(g:GS (yK bs a) w w')(hs:pX w' bs bc S' a')(hC:S'.C=S.C)(hn:∀x,yK bs a' x->yK bs a x\/w.heap.size<=x):iI Λ bs bc S' a' gv sv B ad w'/\Kz w w':=by
 have kt:∀{t:TypeId} {b:Nat} {c:Array Value},t ∉ YQ->w.heap[b]?=some (.cells c t)->w'.heap[b]?=some (.cells c t):=λ{t b c} ht hb=>(g.block b (ae hb) λe=>by
  obtain⟨c',t',h1,h2⟩:=h.si.typ e;rw[hb]at h1;injection h1 with h1;injection h1 with _ h1;subst h1;exact ht h2).trans hb
 have k:Kz w w':=λt ht b c hb=>kt (λe=>(UN e).1 ht) hb
 have cl:∀x,nO S.C.n S.C.sz B bc sv ad x->x<w.heap.size:=λx hx=>by
  rcases hx with rfl|hx|⟨g,i,hg,hi,hx⟩
  .exact ae h.ci.fu
  .obtain⟨c,hc⟩:=au h.ci.row hx;exact ae hc
  .exact(h.ci.rep g i hg hi).lt hx
 have c':=h.ci.keep k (λx hx=>g.block x (cl x hx) λe=>h.dj x e hx) λx c t ht hx=>kt (λe=>(UN e).2 ht) hx
 refine⟨⟨hs,by rw[hC];exact c',λx hx hc=>?_,λb o hb=>⟨(g.block b (ae (h.pr b o hb).1) (h.pr b o hb).2.1).trans (h.pr b o hb).1,λhx=>?_,by rw[hC];exact(h.pr b o hb).2.2⟩,g.os.trans h.os,g.out.trans h.out⟩,k⟩
 .rw[hC]at hc
  rcases hn x hx with e|e
  .exact h.dj x e hc
  .have:=cl x hc;omega
 .rcases hn b hx with e|e
  .exact(h.pr b o hb).2.1 e
  .have:=ae (h.pr b o hb).1;omega
theorem pX.num(h:pX w bs bc S a){k:Nat}{b:Bool}(m:Hl w' bs (fD bc {S with next:=k,bad:=b} a) 44)(g:GB (some bs) w w'):pX w' bs bc {S with next:=k,bad:=b} a:=by
 have nb:∀{x:Nat} {c:Array Value} {t:TypeId},w.heap[x]?=some (.cells c t)->t≠44->w'.heap[x]?=w.heap[x]?:=λhx ht=>g.block _ (ae hx) λe=>dw hx h.mem ht (Jbm e)
 have k:Kz w w':=λt ht b c hb=>(nb hb λe=>by subst e;revert ht;decide).trans hb
 refine⟨m,ax h.ak λx hx=>?_,ax h.be λx hx=>?_,h.bl,λg l v hl hv=>(h.bi g l v hl hv).kz k λx hx=>?_,ax h.le λx hx=>?_,ax h.fe λx hx=>?_⟩
 .obtain⟨c,hc⟩:=au h.ak hx;exact nb hc (by decide)
 .obtain⟨c,hc⟩:=au h.be hx;exact nb hc (by decide)
 .obtain⟨c,hc⟩:=(h.bi g l v hl hv).obj hx;exact nb hc (by decide)
 .obtain⟨c,hc⟩:=au h.le hx;exact nb hc (by decide)
 .obtain⟨c,hc⟩:=au h.fe hx;exact nb hc (by decide)
theorem iI.num(h:iI Λ bs bc S a gv sv B ad w){k:Nat}{b:Bool}(m:Hl w' bs (fD bc {S with next:=k,bad:=b} a) 44)(g:GB (some bs) w w'):iI Λ bs bc {S with next:=k,bad:=b} a gv sv B ad w'/\Kz w w' :=
 h.gs (GS.of g λ_x e=>.inl (Jbm e).symm) (h.si.num m g) rfl λ_x hx=>.inl hx
theorem iI.JZ(h:iI Λ bs bc S a gv sv B ad w){v:Value}{l:List Ask}(g1:GB a.aq.ownBlock w w1)(ho:w1.ownsRow 0 67 9 v l.length (l.map Ask.cells).flatten)(hn:∀x,v.ownBlock=some x->a.aq.ownBlock=some x\/w.heap.size<=x)(m2:Hl w2 bs (fD bc {S with asks:=l} {a with aq:=v}) 44)(g2:GB (some bs) w1 w2):iI Λ bs bc {S with asks:=l} {a with aq:=v} gv sv B ad w2/\Kz w w2:=by
 have own:∀x,a.aq.ownBlock=some x->∃c,w.heap[x]?=some (.cells c 67):=λx hx=>au h.si.ak hx
 have nb:∀{x:Nat} {c:Array Value} {t:TypeId},w.heap[x]?=some (.cells c t)->t≠44->t≠67->w2.heap[x]?=w.heap[x]?:=λ{x c t} hx ht1 ht2=>(g2.block x (Jbz (ae hx) g1.size) λe=>dw hx h.si.mem ht1 (Jbm e)).trans (g1.block x (ae hx) λe=>by obtain⟨c',hc⟩:=own x e.symm;exact dw hx hc ht2 rfl)
 have k:Kz w w2:=λt ht b c hb=>(nb hb (λe=>by subst e;revert ht;decide) (λe=>by subst e;revert ht;decide)).trans hb
 have hs:pX w2 bs bc {S with asks:=l} {a with aq:=v}:=by
  refine⟨m2,ax ho λx hx=>?_,ax h.si.be λx hx=>?_,h.si.bl,λg l v hl hv=>(h.si.bi g l v hl hv).kz k λx hx=>?_,ax h.si.le λx hx=>?_,ax h.si.fe λx hx=>?_⟩
  .obtain⟨c,hc⟩:=au ho hx
   refine g2.block x (ae hc) λe=>?_
   cases e
   rcases hn bs hx with q|q
   .obtain⟨c',hc'⟩:=own bs q
    exact dw hc' h.si.mem (by decide) rfl
   .have:=ae h.si.mem;omega
  .obtain⟨c,hc⟩:=au h.si.be hx;exact nb hc (by decide) (by decide)
  .obtain⟨c,hc⟩:=(h.si.bi g l v hl hv).obj hx;exact nb hc (by decide) (by decide)
  .obtain⟨c,hc⟩:=au h.si.le hx;exact nb hc (by decide) (by decide)
  .obtain⟨c,hc⟩:=au h.si.fe hx;exact nb hc (by decide) (by decide)
 refine h.gs ((GS.of g1 λx e=>.inr (.inl e)).then g2 λx e=>.inl (Jbm e).symm) hs rfl λx hx=>?_
 rcases hx with e|e|e|e|e|e
 .exact .inl (.inl e)
 .exact(hn x e).imp (λe=>.inr (.inl e)) id
 .exact .inl (.inr (.inr (.inl e)))
 .exact .inl (.inr (.inr (.inr (.inl e))))
 .exact .inl (.inr (.inr (.inr (.inr (.inl e)))))
 .exact .inl (.inr (.inr (.inr (.inr (.inr e)))))
theorem iI.le'(h:iI Λ bs bc S a gv sv B ad w){v:Value}{l:List Nat}(g1:GB a.lq.ownBlock w w1)(ho:w1.ownsRow 0 3 1 v l.length (l.map λk=>Value.int .i64 (k:Nat)))(hn:∀x,v.ownBlock=some x->a.lq.ownBlock=some x\/w.heap.size<=x)(m2:Hl w2 bs (fD bc {S with len:=l} {a with lq:=v}) 44)(g2:GB (some bs) w1 w2):iI Λ bs bc {S with len:=l} {a with lq:=v} gv sv B ad w2/\Kz w w2:=by
 have own:∀x,a.lq.ownBlock=some x->∃c,w.heap[x]?=some (.cells c 3):=λx hx=>au h.si.le hx
 have nb:∀{x:Nat} {c:Array Value} {t:TypeId},w.heap[x]?=some (.cells c t)->t≠44->t≠3->w2.heap[x]?=w.heap[x]?:=λ{x c t} hx ht1 ht2=>(g2.block x (Jbz (ae hx) g1.size) λe=>dw hx h.si.mem ht1 (Jbm e)).trans (g1.block x (ae hx) λe=>by obtain⟨c',hc⟩:=own x e.symm;exact dw hx hc ht2 rfl)
 have k:Kz w w2:=λt ht b c hb=>(nb hb (λe=>by subst e;revert ht;decide) (λe=>by subst e;revert ht;decide)).trans hb
 have hs:pX w2 bs bc {S with len:=l} {a with lq:=v}:=by
  refine⟨m2,ax h.si.ak λx hx=>?_,ax h.si.be λx hx=>?_,h.si.bl,λg l v hl hv=>(h.si.bi g l v hl hv).kz k λx hx=>?_,ax ho λx hx=>?_,ax h.si.fe λx hx=>?_⟩
  .obtain⟨c,hc⟩:=au h.si.ak hx;exact nb hc (by decide) (by decide)
  .obtain⟨c,hc⟩:=au h.si.be hx;exact nb hc (by decide) (by decide)
  .obtain⟨c,hc⟩:=(h.si.bi g l v hl hv).obj hx;exact nb hc (by decide) (by decide)
  .obtain⟨c,hc⟩:=au ho hx
   refine g2.block x (ae hc) λe=>?_
   cases e
   rcases hn bs hx with q|q
   .obtain⟨c',hc'⟩:=own bs q
    exact dw hc' h.si.mem (by decide) rfl
   .have:=ae h.si.mem;omega
  .obtain⟨c,hc⟩:=au h.si.fe hx;exact nb hc (by decide) (by decide)
 refine h.gs ((GS.of g1 λx e=>.inr (.inr (.inr (.inl e)))).then g2 λx e=>.inl (Jbm e).symm) hs rfl λx hx=>?_
 rcases hx with e|e|e|e|e|e
 .exact .inl (.inl e)
 .exact .inl (.inr (.inl e))
 .exact .inl (.inr (.inr (.inl e)))
 .exact(hn x e).imp (λe=>.inr (.inr (.inr (.inl e)))) id
 .exact .inl (.inr (.inr (.inr (.inr (.inl e)))))
 .exact .inl (.inr (.inr (.inr (.inr (.inr e)))))
theorem iI.fe'(h:iI Λ bs bc S a gv sv B ad w){v:Value}{l:List Bool}(g1:GB a.fq.ownBlock w w1)(ho:w1.ownsRow 0 4 1 v l.length (l.map Value.bool))(hn:∀x,v.ownBlock=some x->a.fq.ownBlock=some x\/w.heap.size<=x)(m2:Hl w2 bs (fD bc {S with fell:=l} {a with fq:=v}) 44)(g2:GB (some bs) w1 w2):iI Λ bs bc {S with fell:=l} {a with fq:=v} gv sv B ad w2/\Kz w w2:=by
 have own:∀x,a.fq.ownBlock=some x->∃c,w.heap[x]?=some (.cells c 4):=λx hx=>au h.si.fe hx
 have nb:∀{x:Nat} {c:Array Value} {t:TypeId},w.heap[x]?=some (.cells c t)->t≠44->t≠4->w2.heap[x]?=w.heap[x]?:=λ{x c t} hx ht1 ht2=>(g2.block x (Jbz (ae hx) g1.size) λe=>dw hx h.si.mem ht1 (Jbm e)).trans (g1.block x (ae hx) λe=>by obtain⟨c',hc⟩:=own x e.symm;exact dw hx hc ht2 rfl)
 have k:Kz w w2:=λt ht b c hb=>(nb hb (λe=>by subst e;revert ht;decide) (λe=>by subst e;revert ht;decide)).trans hb
 have hs:pX w2 bs bc {S with fell:=l} {a with fq:=v}:=by
  refine⟨m2,ax h.si.ak λx hx=>?_,ax h.si.be λx hx=>?_,h.si.bl,λg l v hl hv=>(h.si.bi g l v hl hv).kz k λx hx=>?_,ax h.si.le λx hx=>?_,ax ho λx hx=>?_⟩
  .obtain⟨c,hc⟩:=au h.si.ak hx;exact nb hc (by decide) (by decide)
  .obtain⟨c,hc⟩:=au h.si.be hx;exact nb hc (by decide) (by decide)
  .obtain⟨c,hc⟩:=(h.si.bi g l v hl hv).obj hx;exact nb hc (by decide) (by decide)
  .obtain⟨c,hc⟩:=au h.si.le hx;exact nb hc (by decide) (by decide)
  .obtain⟨c,hc⟩:=au ho hx
   refine g2.block x (ae hc) λe=>?_
   cases e
   rcases hn bs hx with q|q
   .obtain⟨c',hc'⟩:=own bs q
    exact dw hc' h.si.mem (by decide) rfl
   .have:=ae h.si.mem;omega
 refine h.gs ((GS.of g1 λx e=>.inr (.inr (.inr (.inr (.inl e))))).then g2 λx e=>.inl (Jbm e).symm) hs rfl λx hx=>?_
 rcases hx with e|e|e|e|e|e
 .exact .inl (.inl e)
 .exact .inl (.inr (.inl e))
 .exact .inl (.inr (.inr (.inl e)))
 .exact .inl (.inr (.inr (.inr (.inl e))))
 .exact(hn x e).imp (λe=>.inr (.inr (.inr (.inr (.inl e))))) id
 .exact .inl (.inr (.inr (.inr (.inr (.inr e)))))
end
end
