/- Lemmas. -/
import Derived.Test.YtignemioillaiaaGreatG41
namespace Go.Proofs.YtignemioillaiaaGreat
set_option maxHeartbeats 8000000
set_option maxRecDepth 100000
open List
section
open Go Go.Conc
def dn(l:List Int):List Nat:=l.map λn=>n.toNat%256
theorem eG(a b:List Int):dn (a++b)=dn a++dn b:=map_append
theorem IL:∀(l:List Int) (r:ByteArray),(l.foldl (λr n=>r.push (UInt8.ofNat n.toNat)) r).data.toList=r.data.toList++l.map λn=>UInt8.ofNat n.toNat
 | [],r=>by simp
 |a::l,r=>by rw[foldl_cons,IL l];simp
theorem Cy(l:List Int):dl (vQ l)=dn l:=by
 unfold dl vQ dn;rw[IL];show map UInt8.toNat ([]++_)=_;simp
theorem GV{k:Nat}{a l:List Nat}(h:a.length=k):num k (a++l)=(be a,l):=by
 rw[zH (by simp;omega)];subst h;simp
theorem abo(b:List Nat):∀(a:List Nat),be (a++b)=be a*256 ^ b.length+be b:=by
 suffices h:∀(b:List Nat) (n:Nat),b.foldl (λn b=>n*256+b) n=n*256 ^ b.length+be b from λa=>by
  unfold be;rw[foldl_append,h];rfl
 intro b;induction b with
 |nil=>intro n;simp[be]
 |cons x b ih =>
  intro n;unfold be;rw[foldl_cons,foldl_cons,ih,ih (0*256+x),length_cons,Nat.pow_succ,Nat.add_mul,Nat.mul_assoc,Nat.mul_comm 256,Nat.zero_mul,Nat.zero_add,Nat.add_assoc]
theorem Cz(x:Int):IntKind.u8.wrap x=x%256:=rfl
theorem Ld(x:Int):IntKind.u32.wrap x=x%4294967296:=rfl
theorem fd{x:Int}{n:Nat}:x.fdiv ((2:Int) ^ n)=x / 2 ^ n:=Int.fdiv_eq_ediv_of_nonneg _ (by exact Int.le_of_lt (Int.pow_pos (by decide)))
theorem PX(x:Nat):be (dn (b32 x))=x%4294967296:=by
 unfold b32;rw[fd,fd,fd,Cz,Cz,Cz,Cz];simp only[dn,map_cons,map_nil,be,foldl_cons,foldl_nil];omega
theorem NY{x:Int}(h:0<=x):b32 x=b32 ((x.toNat:Nat):Int):=by rw[Int.toNat_of_nonneg h]
theorem acM{x:Nat}(h:x<18446744073709551616):be (dn (b64 x))=x:=by
 unfold b64;rw[eG,abo,fd,Ld,Ld,NY (x:=(x:Int) / 2 ^ 32%4294967296) (by omega),NY (x:=(x:Int)%4294967296) (by omega),PX,PX];show _*256 ^ 4+_=_;omega
section
variable{β:Type}{x:Nat}{l:List Nat}{f:Nat->List Nat->β}
theorem W9:nx 1 (dn [(x:Int)]++l) f=f (x%256) l:=by
 rw[aX (GV (k:=1) rfl)];show f (0*256+(x:Int).toNat%256) l=_;congr 1;omega
theorem qp(h:x<256):nx 1 (dn [(x:Int)]++l) f=f x l:=by rw[W9,Nat.mod_eq_of_lt h]
theorem NZ:nx 4 (dn (b32 x)++l) f=f (x%4294967296) l:=by rw[aX (GV (k:=4) rfl),PX]
theorem Le(h:x<4294967296):nx 4 (dn (b32 x)++l) f=f x l:=by rw[NZ,Nat.mod_eq_of_lt h]
theorem FO(h:x<18446744073709551616):nx 8 (dn (b64 x)++l) f=f x l:=by rw[aX (GV (k:=8) rfl),acM h]
end
theorem U8.nat{x:Int}(h:U8 x):∃n:Nat,x=n/\n<256:=⟨x.toNat,by have:=h.1;omega,by have:=h.1;have:=h.2;omega⟩
theorem rW.nat{x:Int}(h:rW x):∃n:Nat,x=n/\n<4294967296:=⟨x.toNat,by have:=h.1;omega,by have:=h.1;have:=h.2;omega⟩
theorem iN.nat{x:Int}(h:iN x):∃n:Nat,x=n/\n<18446744073709551616:=⟨x.toNat,by have:=h.1;omega,by have:=h.1;have:=h.2;omega⟩
theorem VA{x:Row}(h:x.b)(l:List Nat):uY (dn (sN x)++l)=(x,l):=by
 obtain⟨k,v⟩:=x;obtain⟨k,rfl,hk⟩:=iN.nat (h.k:iN k);obtain⟨v,rfl,hv⟩:=iN.nat (h.v:iN v);unfold uY sN;rw[eG,append_assoc,FO hk,FO hv]
theorem VB{x:aA}(h:x.b)(ho:uQ x=true)(l:List Nat):mE (dn (ny x)++l)=(x,l):=by
 obtain⟨c,s,key,k,fo,v,g⟩:=x;obtain⟨c,rfl,hc⟩:=U8.nat (h.c:U8 c);obtain⟨s,rfl,hs⟩:=rW.nat (h.s:rW s);obtain⟨key,rfl,hkey⟩:=iN.nat (h.key:iN key);obtain⟨k,rfl,hk⟩:=U8.nat (h.k:U8 k);obtain⟨v,rfl,hv⟩:=iN.nat (h.v:iN v);obtain⟨g,rfl,hg⟩:=U8.nat (h.g:U8 g);unfold uQ at ho;unfold mE ny;dsimp only at ho |-;simp only[eG,append_assoc];rw[qp hc,Le hs,FO hkey,qp hk];by_cases k1:k=1
 ·subst k1
  rw[if_pos rfl,if_pos (show((1:Nat):Int)=1 from rfl),eG];simp at ho;cases fo with
  |true =>
   have e:Cq true=[((1:Nat):Int)]:=rfl;rw[e,if_pos rfl,append_assoc,qp (by decide),if_neg (by decide),FO hv];have:g=0:=by omega
   subst this;rfl
  |false =>
   have e:Cq false=[((0:Nat):Int)]:=rfl;rw[e,if_neg (by decide),append_assoc,qp (by decide),if_pos rfl];have:g=0:=by omega
   have:v=0:=by simp at ho;omega
   subst g v;rfl
 ·rw[if_neg k1,if_neg (show ¬(k:Int)=1 by omega)]
  by_cases k3:k=3
  ·subst k3
   rw[if_pos rfl,if_pos (show((3:Nat):Int)=3 from rfl),qp hg];simp at ho;have:v=0:=by omega
   have:fo=false:=ho.2.2.1;subst v fo;rfl
  ·rw[if_neg k3,if_neg (show ¬(k:Int)=3 by omega)]
   rw[if_neg (show ¬(k:Int)=1 by omega),if_neg (show ¬(k:Int)=3 by omega)]at ho;simp only[Bool.and_eq_true]at ho;have ho:=ho.2;split at ho
   ·simp at ho
    have:v=0:=by omega
    have:g=0:=by omega
    have:fo=false:=ho.1;subst v g fo;rfl
   ·cases ho
theorem Lf{x:bQ}(h:x.b)(ho:jN x=true)(l:List Nat):p9 (dn (uE x)++l)=(x,l):=by
 obtain⟨c,s,k,key,v,hi,to⟩:=x;obtain⟨c,rfl,hc⟩:=U8.nat (h.c:U8 c);obtain⟨s,rfl,hs⟩:=rW.nat (h.s:rW s);obtain⟨key,rfl,hkey⟩:=iN.nat (h.key:iN key);obtain⟨k,rfl,hk⟩:=U8.nat (h.k:U8 k);obtain⟨v,rfl,hv⟩:=iN.nat (h.v:iN v);obtain⟨hi,rfl,hhi⟩:=iN.nat (h.hi:iN hi);obtain⟨to,rfl,hto⟩:=U8.nat (h.to:U8 to);unfold jN at ho;unfold p9 uE;dsimp only at ho |-;simp only[eG,append_assoc];rw[qp hc,Le hs,qp hk,FO hkey];by_cases k2:k=2
 ·subst k2
  rw[if_pos rfl,if_pos (show((2:Nat):Int)=2 from rfl),FO hv];simp at ho;have:hi=0:=by omega
  have:to=0:=by omega
  subst hi to;rfl
 ·rw[if_neg k2,if_neg (show ¬(k:Int)=2 by omega)]
  by_cases k4:k=4
  ·subst k4
   rw[if_pos rfl,if_pos (show((4:Nat):Int)=4 from rfl),eG,append_assoc,FO hhi,qp hto];simp at ho;have:v=0:=by omega
   subst v;rfl
  ·rw[if_neg k4,if_neg (show ¬(k:Int)=4 by omega)]
   simp only[Bool.and_eq_true]at ho;have ho:=ho.2;split at ho
   ·simp at ho
    have:hi=0:=by omega
    have:to=0:=by omega
    have:v=0:=by omega
    subst hi to v;rfl
   ·rw[if_neg (show ¬(k:Int)=2 by omega),if_neg (show ¬(k:Int)=4 by omega)]at ho
    cases ho
theorem Lg{α:Type}{f:List Nat->α×List Nat}{e:α->List Int}{g:α->α}:∀{xs:List α},(∀x∈xs,∀l,f (dn (e x)++l)=(g x,l))->(∀x,e x≠[])->∀l,oP f xs.length (dn (xs.map e).flatten++l)=(xs.map g,l)
 | [],_,_,l=>rfl
 |x::xs,h,ne,l=>by
  rw[map_cons,flatten_cons,eG,append_assoc,length_cons,zI (h x (mem_cons_self) _) (λc=>ne x (by have:=(append_eq_nil_iff.1 c).1;exact map_eq_nil_iff.1 this)),Lg (λy hy=>h y (mem_cons_of_mem _ hy)) ne l];rfl
theorem BN{α:Type}{f:List Nat->α×List Nat}{e:α->List Int}{g:α->α}{xs:List α}(h:∀x∈xs,∀l,f (dn (e x)++l)=(g x,l))(ne:∀x,e x≠[])(hl:xs.length<=255)(l:List Nat):jE f (dn ([(xs.length:Int)]++(xs.map e).flatten)++l)=(xs.map g,l):=by
 unfold jE;rw[eG,append_assoc,qp (by omega),Lg h ne]
theorem N7{x:Rg}(h:x.b)(ho:oO x=true)(l:List Nat):BH (dn (Fw x)++l)=(x,l):=by
 have sm:=El ho;have hp:∀p∈x.aZ,uQ p=true:=λp hp=>by
  unfold oO zB j5 at ho;simp only[Bool.and_eq_true,decide_eq_true_eq]at ho;obtain⟨i,hi,rfl⟩:=getElem_of_mem hp;have:=all_eq_true.1 ho.2.2.2.2.2.2 i (mem_range.2 hi);unfold xn at this;rw[getElem?_eq_getElem hi]at this;simp only[Bool.and_eq_true]at this;exact this.1.1
 obtain⟨src,dst,seq,lo,hi,rows,aZ⟩:=x;have hrows:∀x∈rows,x.b:=h.rows;have PV:∀x∈aZ,x.b:=h.aZ;have l1:rows.length<=255:=sm.1;have l2:aZ.length<=255:=sm.2;obtain⟨src,rfl,hsrc⟩:=U8.nat (h.src:U8 src);obtain⟨dst,rfl,hdst⟩:=U8.nat (h.dst:U8 dst);obtain⟨seq,rfl,hseq⟩:=rW.nat (h.seq:rW seq);obtain⟨lo,rfl,hlo⟩:=iN.nat (h.lo:iN lo);obtain⟨hi,rfl,hhi⟩:=iN.nat (h.hi:iN hi);unfold BH Fw;dsimp only;rw[eG,eG,eG,eG,eG,eG];simp only[append_assoc];rw[qp hsrc,qp hdst,Le hseq,FO hlo,FO hhi,dP (BN (e:=sN) (g:=id) (λx hx=>VA (hrows x hx)) (λx=>by simp[sN,b64,b32]) l1 _),dP (BN (e:=ny) (g:=id) (λx hx=>VB (PV x hx) (hp x hx)) (λx=>by simp[ny]) l2 _)];simp
theorem PY{q:bQ}(h:pO q=true):q=rf:=by
 obtain⟨c,s,k,key,v,hi,to⟩:=q;unfold pO at h;simp at h;obtain⟨rfl,rfl,rfl,rfl,rfl,rfl,rfl⟩:=h;rfl
theorem PZ{r:Rg}(h:uq r=true):r=qF:=by
 obtain⟨src,dst,seq,lo,hi,rows,aZ⟩:=r;unfold uq at h;simp at h;obtain⟨rfl,rfl,rfl,rfl,rfl,rfl,rfl⟩:=h;rfl
theorem Em{N:Nat}{c:MC}(h:jO N c)(ho:lV c=true)(l:List Nat):nK (dn (nA c)++l)=(c,l):=by
 obtain⟨k,q,r,p,s⟩:=c;have hq:q.b:=h.q;have hr:r.b:=h.r;obtain⟨k,rfl,hk⟩:=U8.nat (h.kind:U8 k);obtain⟨p,rfl,hp⟩:=U8.nat (h.peer:U8 p);obtain⟨s,rfl,hs⟩:=rW.nat (h.seq:rW s);unfold lV yE at ho;unfold nK nA;dsimp only at ho |-;rw[eG,append_assoc,qp hk];by_cases k0:k=0
 ·subst k0
  rw[if_pos (show((0:Nat):Int)=0 from rfl)]at ho;simp only[Bool.and_eq_true,beq_iff_eq]at ho;obtain⟨h1,h2,h3,h4⟩:=ho;have h3:p=0:=by omega
  have h4:s=0:=by omega
  rw[PY h1,PZ h2,h3,h4];rfl
 rw[if_neg (by omega)]at ho;by_cases k1:k=1
 ·subst k1
  rw[if_pos (show((1:Nat):Int)=1 from rfl)]at ho;simp only[Bool.and_eq_true,beq_iff_eq]at ho;obtain⟨h1,h2,h3,h4⟩:=ho;have h3:p=0:=by omega
  have h4:s=0:=by omega
  rw[if_pos rfl,if_pos (show((1:Nat):Int)=1 from rfl),dP (Lf hq h1 l),PZ h2,h3,h4];rfl
 rw[if_neg (by omega)]at ho;rw[if_neg k1,if_neg (show ¬(k:Int)=1 by omega)];by_cases k2:k=2
 ·subst k2
  rw[if_pos (show((2:Nat):Int)=2 from rfl)]at ho;simp only[Bool.and_eq_true,beq_iff_eq]at ho;obtain⟨h1,h2,h3,h4⟩:=ho;have h3:p=0:=by omega
  have h4:s=0:=by omega
  rw[if_pos rfl,if_pos (show((2:Nat):Int)=2 from rfl),dP (N7 hr h1 l),PY h2,h3,h4];rfl
 rw[if_neg (by omega)]at ho;rw[if_neg k2,if_neg (show ¬(k:Int)=2 by omega)];by_cases k3:k=3
 ·subst k3
  rw[if_pos (show((3:Nat):Int)=3 from rfl)]at ho;simp only[Bool.and_eq_true]at ho;obtain⟨h1,h2,h3⟩:=ho;rw[if_pos rfl,if_pos (show((3:Nat):Int)=3 from rfl),eG,append_assoc,qp hp,Le hs,PY h2,PZ h3]
 rw[if_neg (by omega)]at ho;cases ho
theorem tC(n i:Nat)(l:List Nat):iH (dn (fE n i)++l)=(⟨n%4294967296,i%256⟩,l):=by
 unfold iH fE;rw[eG,append_assoc,NZ,W9]
theorem SI{N:Nat}{v:MV}(h:jO N v.c)(ho:lV v.c=true)(l:List Nat):nZ (dn (kY v)++l)=(⟨v.slot%4294967296,⟨v.b.n%4294967296,v.b.id%256⟩,v.c⟩,l):=by
 unfold nZ kY;rw[eG,eG,append_assoc,append_assoc,NZ,dP (tC _ _ _),dP (Em h ho l)]
structure Ask where
 q:bQ
 g:Nat
 p:Nat
def Ask.cells(a:Ask):List Value:=a.q.cells++[.int .u8 a.g,.int .i64 a.p]
structure Sit where
 C:aL
 asks:List Ask
 bG:List (List MC)
 len:List Nat
 fell:List Bool
 next:Nat
 bad:Bool
structure yJ where
 (aq bq lq fq:Value)
 bv:List Value
def fV(bc:Nat)(S:Sit)(a:yJ):List Value:=[Ptt bc,.int .i64 S.C.n,.int .i64 S.C.sz,a.aq,a.bq,a.lq,a.fq,.int .i64 S.next,.bool S.bad]
def xR(bs:Nat)(a:yJ)(x:Nat):Prop:=x=bs\/a.aq.ownBlock=some x\/a.bq.ownBlock=some x\/a.lq.ownBlock=some x\/a.fq.ownBlock=some x\/∃v∈a.bv,v.ownBlock=some x
structure pz(w:World)(bs bc:Nat)(S:Sit)(a:yJ):Prop where
 mem:w.heap[bs]? = some (.cells (fV bc S a).toArray 88)
 ak:w.ownsRow 0 162 9 a.aq S.asks.length (S.asks.map Ask.cells).flatten
 be:w.ownsRow 0 22 1 a.bq S.bG.length a.bv
 bl:a.bv.length=S.bG.length
 bi:∀(g:Nat) (l:List MC) (v:Value),S.bG[g]? = some l->a.bv[g]? = some v->jV w v l
 le:w.ownsRow 0 3 1 a.lq S.len.length (S.len.map λk=>Value.int .i64 (k:Nat))
 fe:w.ownsRow 0 4 1 a.fq S.fell.length (S.fell.map Value.bool)
def Xd:List Nat:=[88,162,22,3,4,54]
section
variable{w w':World}{bs bc:Nat}{S S':Sit}{a a':yJ}
theorem pz.typ(h:pz w bs bc S a){x:Nat}(hx:xR bs a x):∃c t,w.heap[x]? = some (.cells c t)/\t∈Xd:=by
 rcases hx with rfl|hx|hx|hx|hx|⟨v,hv,hx⟩
 ·exact⟨_,_,h.mem,by decide⟩
 ·obtain⟨c,hc⟩:=ax h.ak hx;exact⟨_,_,hc,by decide⟩
 ·obtain⟨c,hc⟩:=ax h.be hx;exact⟨_,_,hc,by decide⟩
 ·obtain⟨c,hc⟩:=ax h.le hx;exact⟨_,_,hc,by decide⟩
 ·obtain⟨c,hc⟩:=ax h.fe hx;exact⟨_,_,hc,by decide⟩
 ·obtain⟨g,hg⟩:=mem_iff_getElem?.1 hv
  have hl:g<S.bG.length:=by rw[<-h.bl];exact(List.getElem?_eq_some_iff.1 hg).1
  obtain⟨c,hc⟩:=(h.bi g S.bG[g] v (by simp[hl]) hg).obj hx;exact⟨_,_,hc,by decide⟩
theorem pz.lt(h:pz w bs bc S a){x:Nat}(hx:xR bs a x):x<w.heap.size:=by obtain⟨c,t,hc,_⟩:=h.typ hx;exact ae hc
theorem pz.keep(h:pz w bs bc S a)(k:Kz w w')(hb:∀x,xR bs a x->w'.heap[x]? = w.heap[x]?):pz w' bs bc S a :=
 ⟨(hb bs (.inl rfl)).trans h.mem,ay h.ak λg hg=>hb g (.inr (.inl hg)),ay h.be λg hg=>hb g (.inr (.inr (.inl hg))),h.bl,λg l v hl hv=>(h.bi g l v hl hv).kz k λx hx=>hb x (.inr (.inr (.inr (.inr (.inr ⟨v,List.mem_of_getElem? hv,hx⟩))))),ay h.le λg hg=>hb g (.inr (.inr (.inr (.inl hg)))),ay h.fe λg hg=>hb g (.inr (.inr (.inr (.inr (.inl hg)))))⟩
theorem SK{t:Nat}(h:t∈Xd):t ∉ Ni/\t ∉ Ny:=by
 unfold Xd at h;simp only[mem_cons,not_mem_nil,or_false]at h;rcases h with rfl|rfl|rfl|rfl|rfl|rfl<;>decide
end
section
variable{w w':World}{bc:Nat}{gv sv:Value}{q:List bJ}{n sz:Nat}{B:Nat->Nat->Nat}{ad:Nat->Nat->gp}{F:Nat->Nat->MR}
theorem CI.keep(h:CI w bc gv sv q n sz B ad F)(k:Kz w w')(hb:∀x,nC n sz B bc sv ad x->w'.heap[x]? = w.heap[x]?)(hp:∀(x:Nat) (c:Array Value) (t:TypeId),t∈Ny->w.heap[x]? = some (Obj.cells c t)->w'.heap[x]? = some (Obj.cells c t)):CI w' bc gv sv q n sz B ad F:=by
 obtain⟨bg,cg,cur,tg,e1,e2,e3,e4,e5⟩:=h.ptr;refine⟨(hb bc (.inl rfl)).trans h.fC,ay h.row λx hx=>hb x (.inr (.inl hx)),h.len,⟨bg,cg,cur,tg,e1,e2,hp _ _ _ e4 e3,e4,λg hg=>?_⟩,λg i hg hi=>(h.rep g i hg hi).keep k λx hx=>hb x (.inr (.inr ⟨g,i,hg,hi,hx⟩)),h.sep,h.ob⟩;obtain⟨bs,ct,cur',ts,f1,f2,f3,f4,f5⟩:=e5 g hg;exact⟨bs,ct,cur',ts,f1,f2,hp _ _ _ f4 f3,f4,f5⟩
end
structure iC(Λ:bU)(bs bc:Nat)(S:Sit)(a:yJ)(gv sv:Value)(B:Nat->Nat->Nat)(ad:Nat->Nat->gp)(w:World):Prop where
 si:pz w bs bc S a
 ci:CI w bc gv sv S.C.q S.C.n S.C.sz B ad S.C.F
 dj:∀x,xR bs a x->¬nC S.C.n S.C.sz B bc sv ad x
 pr:∀b o,Λ.pr b=some o->w.heap[b]? = some o/\¬xR bs a b/\¬nC S.C.n S.C.sz B bc sv ad b
 os:w.os=Λ.os
 out:w.output=Λ.out
def df(Λ:bU)(bs:Nat)(S:Sit)(w:World):Prop:=∃bc a gv sv B ad,iC Λ bs bc S a gv sv B ad w
open Classical in
noncomputable def zO(w:World)(n sz:Nat)(B:Nat->Nat->Nat)(bc:Nat)(sv:Value)(ad:Nat->Nat->gp):bU:=⟨λb=>if nC n sz B bc sv ad b then none else w.heap[b]?,w.os,w.output⟩
section
variable{Λ:bU}{w w':World}{bs bc:Nat}{S S':Sit}{a a':yJ}{gv sv:Value}{B:Nat->Nat->Nat}{ad:Nat->Nat->gp}
theorem iC.au(h:iC Λ bs bc S a gv sv B ad w)(g:GB none w w'):iC Λ bs bc S a gv sv B ad w':=⟨h.si.keep g.kz λx hx=>g.block x (h.si.lt hx) nofun,h.ci.au g,h.dj,λb o hb=>⟨g.get (h.pr b o hb).1 nofun,(h.pr b o hb).2⟩,g.os.trans h.os,g.out.trans h.out⟩
theorem df.au(h:df Λ bs S w)(g:GB none w w'):df Λ bs S w':=by obtain⟨bc,a,gv,sv,B,ad,h⟩:=h;exact⟨bc,a,gv,sv,B,ad,h.au g⟩
theorem iC.enter(h:iC Λ bs bc S a gv sv B ad w):uP (zO w S.C.n S.C.sz B bc sv ad) bc S.C w:=by
 refine⟨gv,sv,B,ad,h.ci,λb o hb=>?_,rfl,rfl⟩;unfold zO at hb;dsimp only at hb;split at hb
 ·cases hb
 ·rename_i hn;exact⟨hb,hn⟩
theorem iC.leave(h:iC Λ bs bc S a gv sv B ad w){C':aL}(hn:C'.n=S.C.n)(hz:C'.sz=S.C.sz)(hc:uP (zO w S.C.n S.C.sz B bc sv ad) bc C' w')(k:Kz w w'):df Λ bs { S with C:=C' } w':=by
 obtain⟨RH,bX,B',jM,h'⟩:=hc;have kp:∀{x:Nat} {o:Obj},w.heap[x]? = some o->¬nC S.C.n S.C.sz B bc sv ad x->w'.heap[x]? = some o/\¬nC C'.n C'.sz B' bc bX jM x:=λ{x o} hx hno=>h'.pr x o (by unfold zO;dsimp only;rw[if_neg hno];exact hx)
 have ks:∀x,xR bs a x->w'.heap[x]? = w.heap[x]?/\¬nC C'.n C'.sz B' bc bX jM x:=λx hx=>by
  obtain⟨c,t,h1,_⟩:=h.si.typ hx;obtain⟨h2,h3⟩:=kp h1 (h.dj x hx);exact⟨h2.trans h1.symm,h3⟩
 have s':=h.si.keep k λx hx=>(ks x hx).1
 refine⟨bc,a,RH,bX,B',jM,⟨⟨?_,s'.ak,s'.be,s'.bl,s'.bi,s'.le,s'.fe⟩,h'.ci,λx hx=>(ks x hx).2,λb o hb=>?_,h'.os.trans h.os,h'.out.trans h.out⟩⟩
 ·have e:fV bc { S with C:=C' } a=fV bc S a:=by unfold fV;dsimp only;rw[hn,hz]
  rw[e];exact s'.mem
 ·obtain⟨p1,p2,p3⟩:=h.pr b o hb
  obtain⟨q1,q2⟩:=kp p1 p3;exact⟨q1,p2,q2⟩
end
def bz(c:Int)(n:Nat):Nat:=(if c<0 then(-c - 1).toNat else c.toNat)%n
theorem jy(c:Int){n:Nat}(h:0<n):bz c n<n:=Nat.mod_lt _ h
theorem zP(a:Nat)(n:Nat):((a:Int)).tmod n=((a%n:Nat):Int):=by
 rw[Int.tmod_eq_emod_of_nonneg (Int.natCast_nonneg _)];omega
theorem jk(w:World)(c:Int)(n:Nat)(hn:0<n)(h0 : -9223372036854775808<=c)(h1:c<9223372036854775808):ag Tryz.prog 19 #[.int .i64 c,.int .i64 n] w (λv w'=>v=.int .i64 (bz c n)/\w'=w):=by
 refine ah Tryz.func19 rfl rfl ?_;refine aj (λd=>?_) (λd=>?_)
 ·have d1:c<0:=Ptq d
  refine⟨by omega,by omega,by omega,?_,rfl⟩;unfold bz;rw[if_pos d1,show(0 - (c+1):Int)=((-c - 1).toNat:Int)by omega,zP]
 ·have d1:¬c<0:=Ptx d
  refine⟨by omega,?_,rfl⟩;unfold bz;rw[if_neg d1,show c=(c.toNat:Int)by omega,zP,Int.toNat_natCast]
def aY(C:aL)(k:Int):Nat:=bz k (C.n*C.sz) / C.sz
def bN(C:aL)(k:Int):Nat:=bz k (C.n*C.sz)%C.sz
theorem oH{C:aL}{k:Int}(hn:0<C.n)(hs:0<C.sz):aY C k<C.n/\bN C k<C.sz:=by
 have h:=jy k (Nat.mul_pos hn hs);refine⟨?_,Nat.mod_lt _ hs⟩;unfold aY;rw[Nat.div_lt_iff_lt_mul hs];exact h
section
variable{w:World}{bs bc:Nat}{S:Sit}{a:yJ}
theorem qL(hm:w.heap[bs]? = some (.cells (fV bc S a).toArray 88))(hn:0<S.C.n/\S.C.n<=4)(hs:0<S.C.sz/\S.C.sz<=5)(k:Int)(h0 : -9223372036854775808<=k)(h1:k<9223372036854775808):ag Tryz.prog 28 #[Ptt bs,.int .i64 k] w (λv w'=>v=.agg #[.int .u8 (aY S.C k),.int .u8 (bN S.C k)]/\GB none w w'):=by
 refine ah Tryz.func28 rfl rfl ?_;refine λw1 b1 m1 g1 l1=>?_
 have hm1:=g1.get hm nofun;have hp:0<S.C.n*S.C.sz:=Nat.mul_pos hn.1 hs.1;have hle:S.C.n*S.C.sz<=20:=Nat.mul_le_mul hn.2 hs.2;have hj:=jy k hp;obtain⟨q1,q2⟩:=oH (k:=k) hn.1 hs.1;have pk:=jk w1 k (S.C.n*S.C.sz) hp h0 h1;rw[Int.natCast_mul]at pk;have ahN:(S.C.n:Int)*S.C.sz<=20:=by rw[<-Int.natCast_mul];omega
 have hge':(0:Int)<=(S.C.n:Int)*S.C.sz:=by rw[<-Int.natCast_mul];omega
 refine⟨by kernel_rfl,_,_,hm1,_,rfl,_,_,hm1,_,rfl,by omega,_,pk,?_⟩;rintro _ w2 ⟨rfl,rfl⟩;have hq:IntKind.i64.wrap (((bz k (S.C.n*S.C.sz):Nat):Int).tdiv (S.C.sz:Int))=((aY S.C k:Nat):Int):=by
  have e:((bz k (S.C.n*S.C.sz):Nat):Int).tdiv (S.C.sz:Int)=((aY S.C k:Nat):Int):=by
   rw[Int.tdiv_eq_ediv_of_nonneg (Int.natCast_nonneg _)];unfold aY;omega
  rw[e,Go.IntWalk.i64_in _ ⟨by omega,by omega⟩]
 have hr:((bz k (S.C.n*S.C.sz):Nat):Int).tmod (S.C.sz:Int)=((bN S.C k:Nat):Int):=by rw[zP];rfl
 have nz:((S.C.sz:Nat):Int)≠0:=by omega
 refine⟨by kernel_rfl,_,_,hm1,_,rfl,nz,.inl ⟨⟨by rw[hq];omega,by rw[hq];omega⟩,_,_,hm1,_,rfl,nz,.inl ⟨⟨by rw[hr];omega,by rw[hr];omega⟩,?_⟩⟩⟩;rw[hq,hr];refine⟨_,_,_,m1,rfl,rfl,λw3 m3 g3=>?_⟩;exact⟨_,_,m3,[.int .u8 (aY S.C k),.int .u8 (bN S.C k)],rfl,rfl,rfl,g1.new g3 l1⟩
end
def jA(k:Int):Int:=if k.tmod 11 == 10 then 18446744073709551615 else k.tmod 11
theorem BO(w:World)(k:Int):ag Tryz.prog 35 #[.int .u64 k] w (λv w'=>v=.int .u64 (jA k)/\w'=w):=by
 refine ah Tryz.func35 rfl rfl ?_;unfold jA;refine⟨by decide,aj (λc=>?_) (λc=>?_)⟩
 ·have c1:(k.tmod 11 == 10)=true:=c
  exact⟨by rw[if_pos c1],rfl⟩
 ·have c1:¬(k.tmod 11 == 10)=true:=λe=>by have:(k.tmod 11 == 10)=false:=c;rw[this]at e;cases e
  exact⟨by decide,by rw[if_neg c1],rfl⟩
def dh(q:bQ):bQ:=⟨q.c.tmod 3,1+q.s.tmod 9,1+q.k.tmod 4,jA q.key,if(1+q.k.tmod 4 == 2)=true then q.v else 0,if(1+q.k.tmod 4 == 4)=true then(if jA q.hi<jA q.key then jA q.key else jA q.hi)else 0,if(1+q.k.tmod 4 == 4)=true then q.to.tmod 4 else 0⟩
theorem VC(w:World)(q:bQ)(hs:0<=q.s)(hk:0<=q.k):ag Tryz.prog 126 #[.agg q.cells.toArray] w (λv w'=>v=.agg (dh q).cells.toArray/\GB none w w'):=by
 refine ah Tryz.func126 rfl rfl ?_;refine λw1 b1 m1 g1 l1 w2 b2 m2 g2 l2=>?_
 have m12:=g2.get m1 nofun;have s9:0<=q.s.tmod 9/\q.s.tmod 9<9:=⟨Int.tmod_nonneg _ hs,Int.tmod_lt_of_pos _ (by decide)⟩;have k4:0<=q.k.tmod 4/\q.k.tmod 4<4:=⟨Int.tmod_nonneg _ hk,Int.tmod_lt_of_pos _ (by decide)⟩;refine⟨by kernel_rfl,?_⟩;refine⟨_,_,m12,_,rfl,by decide,_,_,m12,_,rfl,by decide,by omega,_,_,m12,_,rfl,by decide,by omega,_,_,m12,_,rfl,?_⟩;refine⟨⟨_,BO w2 q.key,?_⟩,λw3 b3 m3 g3 l3=>?_⟩
 ·rintro _ w2 ⟨rfl,rfl⟩
  refine⟨⟨m12,m12,m12,m12,trivial⟩,λw3 b3 m3 g3 l3=>⟨⟨g3.get m12 nofun,g3.get m12 nofun,g3.get m12 nofun,g3.get m12 nofun,trivial⟩,_,_,_,m3,rfl,rfl,λw4 m4 g4=>?_⟩⟩;have um:GB none w2 w4:=g3.new g4 l3;have m14:w4.heap[b1]? = _:=um.get m12 nofun;have m24:w4.heap[b2]? = _:=um.get m2 nofun;have BP:b2≠b3:=by have:=ae m2;omega
  have SL:b1≠b3:=by have:=ae m12;omega
  refine⟨_,_,m4,_,rfl,aj (λc=>?_) (λc=>?_)⟩
  ·have c1:(1+q.k.tmod 4 == 2)=true:=c
   have c2:¬(1+q.k.tmod 4 == 4)=true:=λe=>by have:=eq_of_beq c1;have:=eq_of_beq e;omega
   refine⟨_,_,m14,_,rfl,_,_,_,m4,rfl,rfl,λw5 m5 g5=>?_⟩;have uR:w5.heap[b2]? = _:=g5.get m24 λe=>BP (Option.some.inj e)
   refine⟨_,_,m5,(dh q).cells,by unfold dh;rw[if_pos c1,if_neg c2,if_neg c2];rfl,rfl,_,_,_,uR,rfl,rfl,λw6 m6 g6=>?_⟩;exact⟨_,_,m6,(dh q).cells,rfl,rfl,rfl,(g1.trans ((g2.trans (um.new g5 l3)))).new g6 (by have:=g1.size;omega)⟩
  ·have c1:¬(1+q.k.tmod 4 == 2)=true:=λe=>by have:(1+q.k.tmod 4 == 2)=false:=c;rw[this]at e;cases e
   refine aj (λd=>?_) (λd=>?_)
   ·have c2:(1+q.k.tmod 4 == 4)=true:=d
    refine⟨_,_,m14,_,rfl,_,BO w4 q.hi,?_⟩;rintro _ w5 ⟨rfl,rfl⟩;refine⟨_,_,_,m4,rfl,rfl,λw5 m5 g5=>?_⟩;have m15:w5.heap[b1]? = _:=g5.get m14 λe=>SL (Option.some.inj e)
    have uR:w5.heap[b2]? = _:=g5.get m24 λe=>BP (Option.some.inj e)
    refine⟨_,_,m5,_,rfl,_,_,m5,_,rfl,aj (λx=>?_) (λx=>?_)⟩
    ·have x1:jA q.hi<jA q.key:=Ptq x
     refine⟨_,_,m5,_,rfl,_,_,_,m5,rfl,rfl,λw6 m6 g6=>?_⟩;have m16:w6.heap[b1]? = _:=g6.get m15 λe=>SL (Option.some.inj e)
     have m26:w6.heap[b2]? = _:=g6.get uR λe=>BP (Option.some.inj e)
     refine⟨_,_,m16,_,rfl,by decide,_,_,_,m6,rfl,rfl,λw7 m7 g7=>?_⟩;have IM:w7.heap[b2]? = _:=g7.get m26 λe=>BP (Option.some.inj e)
     refine⟨_,_,m7,(dh q).cells,by unfold dh;rw[if_neg c1,if_pos c2,if_pos x1,if_pos c2];rfl,rfl,_,_,_,IM,rfl,rfl,λw8 m8 g8=>?_⟩;exact⟨_,_,m8,(dh q).cells,rfl,rfl,rfl,(g1.trans ((g2.trans (((um.new g5 l3).new g6 l3).new g7 l3)))).new g8 (by have:=g1.size;omega)⟩
    ·have x1:¬jA q.hi<jA q.key:=Ptx x
     refine⟨_,_,m15,_,rfl,by decide,_,_,_,m5,rfl,rfl,λw7 m7 g7=>?_⟩;have IM:w7.heap[b2]? = _:=g7.get uR λe=>BP (Option.some.inj e)
     refine⟨_,_,m7,(dh q).cells,by unfold dh;rw[if_neg c1,if_pos c2,if_neg x1,if_pos c2];rfl,rfl,_,_,_,IM,rfl,rfl,λw8 m8 g8=>?_⟩;exact⟨_,_,m8,(dh q).cells,rfl,rfl,rfl,(g1.trans ((g2.trans ((um.new g5 l3).new g7 l3)))).new g8 (by have:=g1.size;omega)⟩
   ·have c2:¬(1+q.k.tmod 4 == 4)=true:=λe=>by have:(1+q.k.tmod 4 == 4)=false:=d;rw[this]at e;cases e
    refine⟨_,_,m4,(dh q).cells,by unfold dh;rw[if_neg c1,if_neg c2,if_neg c2];rfl,rfl,_,_,_,m24,rfl,rfl,λw6 m6 g6=>?_⟩;exact⟨_,_,m6,(dh q).cells,rfl,rfl,rfl,(g1.trans (g2.trans um)).new g6 (by have:=g1.size;omega)⟩
 ·have m13:=g3.get m12 nofun
  refine⟨⟨m13,m13,m13,m13,trivial⟩,_,BO w3 q.key,?_⟩;rintro _ w4 ⟨rfl,rfl⟩;refine⟨⟨m13,m13,m13,m13,trivial⟩,_,_,_,m3,rfl,rfl,λw4 m4 g4=>?_⟩;have um:GB none w2 w4:=g3.new g4 l3;have m14:w4.heap[b1]? = _:=um.get m12 nofun;have m24:w4.heap[b2]? = _:=um.get m2 nofun;have BP:b2≠b3:=by have:=ae m2;omega
  have SL:b1≠b3:=by have:=ae m12;omega
  refine⟨_,_,m4,_,rfl,aj (λc=>?_) (λc=>?_)⟩
  ·have c1:(1+q.k.tmod 4 == 2)=true:=c
   have c2:¬(1+q.k.tmod 4 == 4)=true:=λe=>by have:=eq_of_beq c1;have:=eq_of_beq e;omega
   refine⟨_,_,m14,_,rfl,_,_,_,m4,rfl,rfl,λw5 m5 g5=>?_⟩;have uR:w5.heap[b2]? = _:=g5.get m24 λe=>BP (Option.some.inj e)
   refine⟨_,_,m5,(dh q).cells,by unfold dh;rw[if_pos c1,if_neg c2,if_neg c2];rfl,rfl,_,_,_,uR,rfl,rfl,λw6 m6 g6=>?_⟩;exact⟨_,_,m6,(dh q).cells,rfl,rfl,rfl,(g1.trans ((g2.trans (um.new g5 l3)))).new g6 (by have:=g1.size;omega)⟩
  ·have c1:¬(1+q.k.tmod 4 == 2)=true:=λe=>by have:(1+q.k.tmod 4 == 2)=false:=c;rw[this]at e;cases e
   refine aj (λd=>?_) (λd=>?_)
   ·have c2:(1+q.k.tmod 4 == 4)=true:=d
    refine⟨_,_,m14,_,rfl,_,BO w4 q.hi,?_⟩;rintro _ w5 ⟨rfl,rfl⟩;refine⟨_,_,_,m4,rfl,rfl,λw5 m5 g5=>?_⟩;have m15:w5.heap[b1]? = _:=g5.get m14 λe=>SL (Option.some.inj e)
    have uR:w5.heap[b2]? = _:=g5.get m24 λe=>BP (Option.some.inj e)
    refine⟨_,_,m5,_,rfl,_,_,m5,_,rfl,aj (λx=>?_) (λx=>?_)⟩
    ·have x1:jA q.hi<jA q.key:=Ptq x
     refine⟨_,_,m5,_,rfl,_,_,_,m5,rfl,rfl,λw6 m6 g6=>?_⟩;have m16:w6.heap[b1]? = _:=g6.get m15 λe=>SL (Option.some.inj e)
     have m26:w6.heap[b2]? = _:=g6.get uR λe=>BP (Option.some.inj e)
     refine⟨_,_,m16,_,rfl,by decide,_,_,_,m6,rfl,rfl,λw7 m7 g7=>?_⟩;have IM:w7.heap[b2]? = _:=g7.get m26 λe=>BP (Option.some.inj e)
     refine⟨_,_,m7,(dh q).cells,by unfold dh;rw[if_neg c1,if_pos c2,if_pos x1,if_pos c2];rfl,rfl,_,_,_,IM,rfl,rfl,λw8 m8 g8=>?_⟩;exact⟨_,_,m8,(dh q).cells,rfl,rfl,rfl,(g1.trans ((g2.trans (((um.new g5 l3).new g6 l3).new g7 l3)))).new g8 (by have:=g1.size;omega)⟩
    ·have x1:¬jA q.hi<jA q.key:=Ptx x
     refine⟨_,_,m15,_,rfl,by decide,_,_,_,m5,rfl,rfl,λw7 m7 g7=>?_⟩;have IM:w7.heap[b2]? = _:=g7.get uR λe=>BP (Option.some.inj e)
     refine⟨_,_,m7,(dh q).cells,by unfold dh;rw[if_neg c1,if_pos c2,if_neg x1,if_pos c2];rfl,rfl,_,_,_,IM,rfl,rfl,λw8 m8 g8=>?_⟩;exact⟨_,_,m8,(dh q).cells,rfl,rfl,rfl,(g1.trans ((g2.trans ((um.new g5 l3).new g7 l3)))).new g8 (by have:=g1.size;omega)⟩
   ·have c2:¬(1+q.k.tmod 4 == 4)=true:=λe=>by have:(1+q.k.tmod 4 == 4)=false:=d;rw[this]at e;cases e
    refine⟨_,_,m4,(dh q).cells,by unfold dh;rw[if_neg c1,if_neg c2,if_neg c2];rfl,rfl,_,_,_,m24,rfl,rfl,λw6 m6 g6=>?_⟩;exact⟨_,_,m6,(dh q).cells,rfl,rfl,rfl,(g1.trans (g2.trans um)).new g6 (by have:=g1.size;omega)⟩
end
