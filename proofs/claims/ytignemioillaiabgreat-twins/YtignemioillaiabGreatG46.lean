/- What was written is read back. -/
import Derived.Test.YtignemioillaiabGreatG45
namespace Go.Proofs.YtignemioillaiabGreat
set_option maxHeartbeats 8000000
set_option maxRecDepth 100000
section
open Go Go.Conc
def dn (l:List Int):List Nat:=l.map fun n=>n.toNat%256
theorem dV (a b:List Int):dn (a++b)=dn a++dn b:=List.map_append
theorem Gv:∀ (l:List Int) (r:ByteArray),(l.foldl (fun r n=>r.push (UInt8.ofNat n.toNat)) r).data.toList=r.data.toList++l.map fun n=>UInt8.ofNat n.toNat
 | [],r=>by simp
 | a::l,r=>by rw [List.foldl_cons,Gv l];simp
theorem Mj (l:List Int):dl (uD l)=dn l:=by
 unfold dl uD dn;rw [Gv];show List.map UInt8.toNat ([]++_)=_;simp
theorem Fu {k:Nat} {a l:List Nat} (h:a.length=k):num k (a++l)=(be a,l):=by
 rw [yB (by simp;omega)];subst h;simp
theorem ZJ (b:List Nat):∀ (a:List Nat),be (a++b)=be a*256 ^ b.length+be b:=by
 suffices h:∀ (b:List Nat) (n:Nat),b.foldl (fun n b=>n*256+b) n=n*256 ^ b.length+be b from fun a=>by
  unfold be;rw [List.foldl_append,h];rfl
 intro b;induction b with
 | nil=>intro n;simp [be]
 | cons x b ih =>
  intro n;unfold be;rw [List.foldl_cons,List.foldl_cons,ih,ih (0*256+x),List.length_cons,Nat.pow_succ,Nat.add_mul,Nat.mul_assoc,Nat.mul_comm 256,Nat.zero_mul,Nat.zero_add,Nat.add_assoc]
theorem Bj (x:Int):IntKind.u8.wrap x=x%256:=rfl
theorem JJ (x:Int):IntKind.u32.wrap x=x%4294967296:=rfl
theorem fd {x:Int} {n:Nat}:x.fdiv ((2:Int) ^ n)=x / 2 ^ n:=Int.fdiv_eq_ediv_of_nonneg _ (by exact Int.le_of_lt (Int.pow_pos (by decide)))
theorem Oi (x:Nat):be (dn (b32 x))=x%4294967296:=by
 unfold b32;rw [fd,fd,fd,Bj,Bj,Bj,Bj];simp only [dn,List.map_cons,List.map_nil,be,List.foldl_cons,List.foldl_nil];omega
theorem Mk {x:Int} (h:0≤x):b32 x=b32 ((x.toNat:Nat):Int):=by rw [Int.toNat_of_nonneg h]
theorem aa1 {x:Nat} (h:x<18446744073709551616):be (dn (b64 x))=x:=by
 unfold b64;rw [dV,ZJ,fd,JJ,JJ,Mk (x:=(x:Int) / 2 ^ 32%4294967296) (by omega),Mk (x:=(x:Int)%4294967296) (by omega),Oi,Oi];show _*256 ^ 4+_=_;omega
section
variable {β:Type} {x:Nat} {l:List Nat} {f:Nat→List Nat→β}
theorem U5:nx 1 (dn [(x:Int)]++l) f=f (x%256) l:=by
 rw [aZ (Fu (k:=1) rfl)];show f (0*256+(x:Int).toNat%256) l=_;congr 1;omega
theorem oU (h:x<256):nx 1 (dn [(x:Int)]++l) f=f x l:=by rw [U5,Nat.mod_eq_of_lt h]
theorem Ml:nx 4 (dn (b32 x)++l) f=f (x%4294967296) l:=by rw [aZ (Fu (k:=4) rfl),Oi]
theorem JK (h:x<4294967296):nx 4 (dn (b32 x)++l) f=f x l:=by rw [Ml,Nat.mod_eq_of_lt h]
theorem Ew (h:x<18446744073709551616):nx 8 (dn (b64 x)++l) f=f x l:=by rw [aZ (Fu (k:=8) rfl),aa1 h]
end
theorem U8.nat {x:Int} (h:U8 x):∃ n:Nat,x=n∧n<256:=⟨x.toNat,by have:=h.1;omega,by have:=h.1;have:=h.2;omega⟩
theorem qH.nat {x:Int} (h:qH x):∃ n:Nat,x=n∧n<4294967296:=⟨x.toNat,by have:=h.1;omega,by have:=h.1;have:=h.2;omega⟩
theorem gZ.nat {x:Int} (h:gZ x):∃ n:Nat,x=n∧n<18446744073709551616:=⟨x.toNat,by have:=h.1;omega,by have:=h.1;have:=h.2;omega⟩
theorem TK {x:Row} (h:x.b) (l:List Nat):tY (dn (qY x)++l)=(x,l):=by
 obtain ⟨k,v⟩:=x;obtain ⟨k,rfl,hk⟩:=gZ.nat (h.k:gZ k);obtain ⟨v,rfl,hv⟩:=gZ.nat (h.v:gZ v);unfold tY qY;rw [dV,List.append_assoc,Ew hk,Ew hv]
theorem TM {x:aD} (h:x.b) (ho:tJ x=true) (l:List Nat):lG (dn (mU x)++l)=(x,l):=by
 obtain ⟨c,s,key,k,fo,v,g⟩:=x;obtain ⟨c,rfl,hc⟩:=U8.nat (h.c:U8 c);obtain ⟨s,rfl,hs⟩:=qH.nat (h.s:qH s);obtain ⟨key,rfl,hkey⟩:=gZ.nat (h.key:gZ key);obtain ⟨k,rfl,hk⟩:=U8.nat (h.k:U8 k);obtain ⟨v,rfl,hv⟩:=gZ.nat (h.v:gZ v);obtain ⟨g,rfl,hg⟩:=U8.nat (h.g:U8 g);unfold tJ at ho;unfold lG mU;dsimp only at ho ⊢;simp only [dV,List.append_assoc];rw [oU hc,JK hs,Ew hkey,oU hk];by_cases k1:k=1
 ·subst k1
  rw [if_pos rfl,if_pos (show ((1:Nat):Int)=1 from rfl),dV];simp at ho;cases fo with
  | true =>
   have e:A9 true=[((1:Nat):Int)]:=rfl;rw [e,if_pos rfl,List.append_assoc,oU (by decide),if_neg (by decide),Ew hv];have:g=0:=by omega
   subst this;rfl
  | false =>
   have e:A9 false=[((0:Nat):Int)]:=rfl;rw [e,if_neg (by decide),List.append_assoc,oU (by decide),if_pos rfl];have:g=0:=by omega
   have:v=0:=by simp at ho;omega
   subst g v;rfl
 ·rw [if_neg k1,if_neg (show ¬ (k:Int)=1 by omega)]
  by_cases k3:k=3
  ·subst k3
   rw [if_pos rfl,if_pos (show ((3:Nat):Int)=3 from rfl),oU hg];simp at ho;have:v=0:=by omega
   have:fo=false:=ho.2.2.1;subst v fo;rfl
  ·rw [if_neg k3,if_neg (show ¬ (k:Int)=3 by omega)]
   rw [if_neg (show ¬ (k:Int)=1 by omega),if_neg (show ¬ (k:Int)=3 by omega)] at ho;simp only [Bool.and_eq_true] at ho;have ho:=ho.2;split at ho
   ·simp at ho
    have:v=0:=by omega
    have:g=0:=by omega
    have:fo=false:=ho.1;subst v g fo;rfl
   ·cases ho
theorem TN {x:bH} (h:x.b) (ho:kJ x=true) (l:List Nat):qp (dn (uO x)++l)=(x,l):=by
 obtain ⟨c,s,k,key,v,hi,to⟩:=x;obtain ⟨c,rfl,hc⟩:=U8.nat (h.c:U8 c);obtain ⟨s,rfl,hs⟩:=qH.nat (h.s:qH s);obtain ⟨key,rfl,hkey⟩:=gZ.nat (h.key:gZ key);obtain ⟨k,rfl,hk⟩:=U8.nat (h.k:U8 k);obtain ⟨v,rfl,hv⟩:=gZ.nat (h.v:gZ v);obtain ⟨hi,rfl,hhi⟩:=gZ.nat (h.hi:gZ hi);obtain ⟨to,rfl,hto⟩:=U8.nat (h.to:U8 to);unfold kJ at ho;unfold qp uO;dsimp only at ho ⊢;simp only [dV,List.append_assoc];rw [oU hc,JK hs,oU hk,Ew hkey];by_cases k2:k=2
 ·subst k2
  rw [if_pos rfl,if_pos (show ((2:Nat):Int)=2 from rfl),Ew hv];simp at ho;have:hi=0:=by omega
  have:to=0:=by omega
  subst hi to;rfl
 ·rw [if_neg k2,if_neg (show ¬ (k:Int)=2 by omega)]
  by_cases k4:k=4
  ·subst k4
   rw [if_pos rfl,if_pos (show ((4:Nat):Int)=4 from rfl),dV,List.append_assoc,Ew hhi,oU hto];simp at ho;have:v=0:=by omega
   subst v;rfl
  ·rw [if_neg k4,if_neg (show ¬ (k:Int)=4 by omega)]
   simp only [Bool.and_eq_true] at ho;have ho:=ho.2;split at ho
   ·simp at ho
    have:hi=0:=by omega
    have:to=0:=by omega
    have:v=0:=by omega
    subst hi to v;rfl
   ·rw [if_neg (show ¬ (k:Int)=2 by omega),if_neg (show ¬ (k:Int)=4 by omega)] at ho
    cases ho
theorem JL {α:Type} {f:List Nat→α×List Nat} {e:α→List Int} {g:α→α}:∀ {xs:List α},(∀ x∈xs,∀ l,f (dn (e x)++l)=(g x,l))→(∀ x,e x≠[])→∀ l,nP f xs.length (dn (xs.map e).flatten++l)=(xs.map g,l)
 | [],_,_,l=>rfl
 | x::xs,h,ne,l=>by
  rw [List.map_cons,List.flatten_cons,dV,List.append_assoc,List.length_cons,yC (h x (List.mem_cons_self) _) (fun c=>ne x (by have:=(List.append_eq_nil_iff.1 c).1;exact List.map_eq_nil_iff.1 this)),JL (fun y hy=>h y (List.mem_cons_of_mem _ hy)) ne l];rfl
theorem AB {α:Type} {f:List Nat→α×List Nat} {e:α→List Int} {g:α→α} {xs:List α} (h:∀ x∈xs,∀ l,f (dn (e x)++l)=(g x,l)) (ne:∀ x,e x≠[]) (hl:xs.length≤255) (l:List Nat):ja f (dn ([(xs.length:Int)]++(xs.map e).flatten)++l)=(xs.map g,l):=by
 unfold ja;rw [dV,List.append_assoc,oU (by omega),JL h ne]
theorem Mm {x:Rg} (h:x.b) (ho:og x=true) (l:List Nat):Ar (dn (Eg x)++l)=(x,l):=by
 have sm:=CV ho;have hp:∀ p∈x.bz,tJ p=true:=fun p hp=>by
  unfold og yu jC at ho;simp only [Bool.and_eq_true,decide_eq_true_eq] at ho;obtain ⟨i,hi,rfl⟩:=List.getElem_of_mem hp;have:=List.all_eq_true.1 ho.2.2.2.2.2.2 i (List.mem_range.2 hi);unfold vV at this;rw [List.getElem?_eq_getElem hi] at this;simp only [Bool.and_eq_true] at this;exact this.1.1
 obtain ⟨src,dst,seq,lo,hi,rows,bz⟩:=x;have hrows:∀ x∈rows,x.b:=h.rows;have Og:∀ x∈bz,x.b:=h.bz;have l1:rows.length≤255:=sm.1;have l2:bz.length≤255:=sm.2;obtain ⟨src,rfl,hsrc⟩:=U8.nat (h.src:U8 src);obtain ⟨dst,rfl,hdst⟩:=U8.nat (h.dst:U8 dst);obtain ⟨seq,rfl,hseq⟩:=qH.nat (h.seq:qH seq);obtain ⟨lo,rfl,hlo⟩:=gZ.nat (h.lo:gZ lo);obtain ⟨hi,rfl,hhi⟩:=gZ.nat (h.hi:gZ hi);unfold Ar Eg;dsimp only;rw [dV,dV,dV,dV,dV,dV];simp only [List.append_assoc];rw [oU hsrc,oU hdst,JK hseq,Ew hlo,Ew hhi,dP (AB (e:=qY) (g:=id) (fun x hx=>TK (hrows x hx)) (fun x=>by simp [qY,b64,b32]) l1 _),dP (AB (e:=mU) (g:=id) (fun x hx=>TM (Og x hx) (hp x hx)) (fun x=>by simp [mU]) l2 _)];simp
theorem Oj {q:bH} (h:oh q=true):q=qb:=by
 obtain ⟨c,s,k,key,v,hi,to⟩:=q;unfold oh at h;simp at h;obtain ⟨rfl,rfl,rfl,rfl,rfl,rfl,rfl⟩:=h;rfl
theorem Ol {r:Rg} (h:sj r=true):r=pE:=by
 obtain ⟨src,dst,seq,lo,hi,rows,bz⟩:=r;unfold sj at h;simp at h;obtain ⟨rfl,rfl,rfl,rfl,rfl,rfl,rfl⟩:=h;rfl
theorem CW {N:Nat} {c:MC} (h:lQ N c) (ho:kR c=true) (l:List Nat):mF (dn (mf c)++l)=(c,l):=by
 obtain ⟨k,q,r,p,s⟩:=c;have hq:q.b:=h.q;have hr:r.b:=h.r;obtain ⟨k,rfl,hk⟩:=U8.nat (h.kind:U8 k);obtain ⟨p,rfl,hp⟩:=U8.nat (h.peer:U8 p);obtain ⟨s,rfl,hs⟩:=qH.nat (h.seq:qH s);unfold kR xx at ho;unfold mF mf;dsimp only at ho ⊢;rw [dV,List.append_assoc,oU hk];by_cases k0:k=0
 ·subst k0
  rw [if_pos (show ((0:Nat):Int)=0 from rfl)] at ho;simp only [Bool.and_eq_true,beq_iff_eq] at ho;obtain ⟨h1,h2,h3,h4⟩:=ho;have h3:p=0:=by omega
  have h4:s=0:=by omega
  rw [Oj h1,Ol h2,h3,h4];rfl
 rw [if_neg (by omega)] at ho;by_cases k1:k=1
 ·subst k1
  rw [if_pos (show ((1:Nat):Int)=1 from rfl)] at ho;simp only [Bool.and_eq_true,beq_iff_eq] at ho;obtain ⟨h1,h2,h3,h4⟩:=ho;have h3:p=0:=by omega
  have h4:s=0:=by omega
  rw [if_pos rfl,if_pos (show ((1:Nat):Int)=1 from rfl),dP (TN hq h1 l),Ol h2,h3,h4];rfl
 rw [if_neg (by omega)] at ho;rw [if_neg k1,if_neg (show ¬ (k:Int)=1 by omega)];by_cases k2:k=2
 ·subst k2
  rw [if_pos (show ((2:Nat):Int)=2 from rfl)] at ho;simp only [Bool.and_eq_true,beq_iff_eq] at ho;obtain ⟨h1,h2,h3,h4⟩:=ho;have h3:p=0:=by omega
  have h4:s=0:=by omega
  rw [if_pos rfl,if_pos (show ((2:Nat):Int)=2 from rfl),dP (Mm hr h1 l),Oj h2,h3,h4];rfl
 rw [if_neg (by omega)] at ho;rw [if_neg k2,if_neg (show ¬ (k:Int)=2 by omega)];by_cases k3:k=3
 ·subst k3
  rw [if_pos (show ((3:Nat):Int)=3 from rfl)] at ho;simp only [Bool.and_eq_true] at ho;obtain ⟨h1,h2,h3⟩:=ho;rw [if_pos rfl,if_pos (show ((3:Nat):Int)=3 from rfl),dV,List.append_assoc,oU hp,JK hs,Oj h2,Ol h3]
 rw [if_neg (by omega)] at ho;cases ho
theorem rz (n i:Nat) (l:List Nat):gN (dn (eB n i)++l)=(⟨n%4294967296,i%256⟩,l):=by
 unfold gN eB;rw [dV,List.append_assoc,Ml,U5]
theorem QH {N:Nat} {v:MV} (h:lQ N v.c) (ho:kR v.c=true) (l:List Nat):ni (dn (kD v)++l)=(⟨v.slot%4294967296,⟨v.b.n%4294967296,v.b.id%256⟩,v.c⟩,l):=by
 unfold ni kD;rw [dV,dV,List.append_assoc,List.append_assoc,Ml,dP (rz _ _ _),dP (CW h ho l)]
structure Ask where
 q:bH
 g:Nat
 p:Nat
def Ask.cells (a:Ask):List Value:=a.q.cells++[.int .u8 a.g,.int .i64 a.p]
structure Sit where
 C:aW
 asks:List Ask
 dY:List (List MC)
 len:List Nat
 fell:List Bool
 next:Nat
 bad:Bool
structure xC where
 (aq bq lq fq:Value)
 bv:List Value
def fI (bc:Nat) (S:Sit) (a:xC):List Value:=[.pointer (some ⟨bc,0,none⟩),.int .i64 S.C.n,.int .i64 S.C.sz,a.aq,a.bq,a.lq,a.fq,.int .i64 S.next,.bool S.bad]
def uW (bs:Nat) (a:xC) (x:Nat):Prop:=x=bs∨a.aq.ownBlock=some x∨a.bq.ownBlock=some x∨a.lq.ownBlock=some x∨a.fq.ownBlock=some x∨∃ v∈a.bv,v.ownBlock=some x
structure nV (w:World) (bs bc:Nat) (S:Sit) (a:xC):Prop where
 mem:w.heap[bs]? = some (.cells (fI bc S a).toArray 44)
 ak:w.ownsRow 0 67 9 a.aq S.asks.length (S.asks.map Ask.cells).flatten
 be:w.ownsRow 0 57 1 a.bq S.dY.length a.bv
 bl:a.bv.length=S.dY.length
 bi:∀ (g:Nat) (l:List MC) (v:Value),S.dY[g]? = some l→a.bv[g]? = some v→mQ w v l
 le:w.ownsRow 0 3 1 a.lq S.len.length (S.len.map fun k=>Value.int .i64 (k:Nat))
 fe:w.ownsRow 0 4 1 a.fq S.fell.length (S.fell.map Value.bool)
def Va:List Nat:=[44,67,57,3,4,80]
section
variable {w w':World} {bs bc:Nat} {S S':Sit} {a a':xC}
theorem nV.typ (h:nV w bs bc S a) {x:Nat} (hx:uW bs a x):∃ c t,w.heap[x]? = some (.cells c t)∧t∈Va:=by
 rcases hx with rfl | hx | hx | hx | hx | ⟨v,hv,hx⟩
 ·exact ⟨_,_,h.mem,by decide⟩
 ·obtain ⟨c,hc⟩:=aG h.ak hx;exact ⟨_,_,hc,by decide⟩
 ·obtain ⟨c,hc⟩:=aG h.be hx;exact ⟨_,_,hc,by decide⟩
 ·obtain ⟨c,hc⟩:=aG h.le hx;exact ⟨_,_,hc,by decide⟩
 ·obtain ⟨c,hc⟩:=aG h.fe hx;exact ⟨_,_,hc,by decide⟩
 ·obtain ⟨g,hg⟩:=List.mem_iff_getElem?.1 hv
  have hl:g<S.dY.length:=by rw [← h.bl];exact (List.getElem?_eq_some_iff.1 hg).1
  obtain ⟨c,hc⟩:=(h.bi g S.dY[g] v (by simp [hl]) hg).obj hx;exact ⟨_,_,hc,by decide⟩
theorem nV.lt (h:nV w bs bc S a) {x:Nat} (hx:uW bs a x):x<w.heap.size:=by obtain ⟨c,t,hc,_⟩:=h.typ hx;exact ae hc
theorem nV.keep (h:nV w bs bc S a) (k:Kz w w') (hb:∀ x,uW bs a x→w'.heap[x]? = w.heap[x]?):nV w' bs bc S a :=
 ⟨(hb bs (.inl rfl)).trans h.mem,aF h.ak fun g hg=>hb g (.inr (.inl hg)),aF h.be fun g hg=>hb g (.inr (.inr (.inl hg))),h.bl,fun g l v hl hv=>(h.bi g l v hl hv).kz k fun x hx=>hb x (.inr (.inr (.inr (.inr (.inr ⟨v,List.mem_of_getElem? hv,hx⟩))))),aF h.le fun g hg=>hb g (.inr (.inr (.inr (.inl hg)))),aF h.fe fun g hg=>hb g (.inr (.inr (.inr (.inr (.inl hg)))))⟩
theorem JM {t:Nat} (h:t∈Va):t ∉ Le∧t ∉ Jd:=by
 unfold Va at h;simp only [List.mem_cons,List.not_mem_nil,or_false] at h;rcases h with rfl | rfl | rfl | rfl | rfl | rfl <;> decide
end
section
variable {w w':World} {bc:Nat} {gv sv:Value} {q:List bJ} {n sz:Nat} {B:Nat→Nat→Nat} {ad:Nat→Nat→fu} {F:Nat→Nat→MR}
theorem CI.keep (h:CI w bc gv sv q n sz B ad F) (k:Kz w w') (hb:∀ x,lu n sz B bc sv ad x→w'.heap[x]? = w.heap[x]?) (hp:∀ (x:Nat) (c:Array Value) (t:TypeId),t∈Jd→w.heap[x]? = some (Obj.cells c t)→w'.heap[x]? = some (Obj.cells c t)):CI w' bc gv sv q n sz B ad F:=by
 obtain ⟨bg,cg,cur,tg,e1,e2,e3,e4,e5⟩:=h.ptr;refine ⟨(hb bc (.inl rfl)).trans h.eX,aF h.row fun x hx=>hb x (.inr (.inl hx)),h.len,⟨bg,cg,cur,tg,e1,e2,hp _ _ _ e4 e3,e4,fun g hg=>?_⟩,fun g i hg hi=>(h.rep g i hg hi).keep k fun x hx=>hb x (.inr (.inr ⟨g,i,hg,hi,hx⟩)),h.sep,h.ob⟩;obtain ⟨bs,ct,cur',ts,f1,f2,f3,f4,f5⟩:=e5 g hg;exact ⟨bs,ct,cur',ts,f1,f2,hp _ _ _ f4 f3,f4,f5⟩
end
structure dR (Λ:bN) (bs bc:Nat) (S:Sit) (a:xC) (gv sv:Value) (B:Nat→Nat→Nat) (ad:Nat→Nat→fu) (w:World):Prop where
 si:nV w bs bc S a
 ci:CI w bc gv sv S.C.q S.C.n S.C.sz B ad S.C.F
 dj:∀ x,uW bs a x→¬ lu S.C.n S.C.sz B bc sv ad x
 pr:∀ b o,Λ.pr b=some o→w.heap[b]? = some o∧¬ uW bs a b∧¬ lu S.C.n S.C.sz B bc sv ad b
 os:w.os=Λ.os
 out:w.output=Λ.out
def cz (Λ:bN) (bs:Nat) (S:Sit) (w:World):Prop:=∃ bc a gv sv B ad,dR Λ bs bc S a gv sv B ad w
open Classical in
noncomputable def yI (w:World) (n sz:Nat) (B:Nat→Nat→Nat) (bc:Nat) (sv:Value) (ad:Nat→Nat→fu):bN:=⟨fun b=>if lu n sz B bc sv ad b then none else w.heap[b]?,w.os,w.output⟩
section
variable {Λ:bN} {w w':World} {bs bc:Nat} {S S':Sit} {a a':xC} {gv sv:Value} {B:Nat→Nat→Nat} {ad:Nat→Nat→fu}
theorem dR.ax (h:dR Λ bs bc S a gv sv B ad w) (g:GB none w w'):dR Λ bs bc S a gv sv B ad w':=⟨h.si.keep g.kz fun x hx=>g.block x (h.si.lt hx) nofun,h.ci.ax g,h.dj,fun b o hb=>⟨g.get (h.pr b o hb).1 nofun,(h.pr b o hb).2⟩,g.os.trans h.os,g.out.trans h.out⟩
theorem cz.ax (h:cz Λ bs S w) (g:GB none w w'):cz Λ bs S w':=by obtain ⟨bc,a,gv,sv,B,ad,h⟩:=h;exact ⟨bc,a,gv,sv,B,ad,h.ax g⟩
theorem dR.enter (h:dR Λ bs bc S a gv sv B ad w):r9 (yI w S.C.n S.C.sz B bc sv ad) bc S.C w:=by
 refine ⟨gv,sv,B,ad,h.ci,fun b o hb=>?_,rfl,rfl⟩;unfold yI at hb;dsimp only at hb;split at hb
 ·cases hb
 ·rename_i hn;exact ⟨hb,hn⟩
theorem dR.leave (h:dR Λ bs bc S a gv sv B ad w) {C':aW} (hn:C'.n=S.C.n) (hz:C'.sz=S.C.sz) (hc:r9 (yI w S.C.n S.C.sz B bc sv ad) bc C' w') (k:Kz w w'):cz Λ bs { S with C:=C' } w':=by
 obtain ⟨P8,dw,B',jh,h'⟩:=hc;have kp:∀ {x:Nat} {o:Obj},w.heap[x]? = some o→¬ lu S.C.n S.C.sz B bc sv ad x→w'.heap[x]? = some o∧¬ lu C'.n C'.sz B' bc dw jh x:=fun {x o} hx hno=>h'.pr x o (by unfold yI;dsimp only;rw [if_neg hno];exact hx)
 have ks:∀ x,uW bs a x→w'.heap[x]? = w.heap[x]?∧¬ lu C'.n C'.sz B' bc dw jh x:=fun x hx=>by
  obtain ⟨c,t,h1,_⟩:=h.si.typ hx;obtain ⟨h2,h3⟩:=kp h1 (h.dj x hx);exact ⟨h2.trans h1.symm,h3⟩
 have s':=h.si.keep k fun x hx=>(ks x hx).1
 refine ⟨bc,a,P8,dw,B',jh,⟨⟨?_,s'.ak,s'.be,s'.bl,s'.bi,s'.le,s'.fe⟩,h'.ci,fun x hx=>(ks x hx).2,fun b o hb=>?_,h'.os.trans h.os,h'.out.trans h.out⟩⟩
 ·have e:fI bc { S with C:=C' } a=fI bc S a:=by unfold fI;dsimp only;rw [hn,hz]
  rw [e];exact s'.mem
 ·obtain ⟨p1,p2,p3⟩:=h.pr b o hb
  obtain ⟨q1,q2⟩:=kp p1 p3;exact ⟨q1,p2,q2⟩
end
def bA (c:Int) (n:Nat):Nat:=(if c<0 then (-c - 1).toNat else c.toNat)%n
theorem gF (c:Int) {n:Nat} (h:0<n):bA c n<n:=Nat.mod_lt _ h
theorem yJ (a:Nat) (n:Nat):((a:Int)).tmod n=((a%n:Nat):Int):=by
 rw [Int.tmod_eq_emod_of_nonneg (Int.natCast_nonneg _)];omega
theorem iR (w:World) (c:Int) (n:Nat) (hn:0<n) (h0 : -9223372036854775808≤c) (h1:c<9223372036854775808):af Tryz.prog 46 #[.int .i64 c,.int .i64 n] w (fun v w'=>v=.int .i64 (bA c n)∧w'=w):=by
 refine ah au mixed Tryz.func46 rfl rfl ?_;refine aj (fun d=>?_) (fun d=>?_)
 ·have d1:c<0:=of_decide_eq_true d
  refine ⟨by omega,by omega,by omega,?_,rfl⟩;unfold bA;rw [if_pos d1,show (0 - (c+1):Int)=((-c - 1).toNat:Int) by omega,yJ]
 ·have d1:¬ c<0:=of_decide_eq_false d
  refine ⟨by omega,?_,rfl⟩;unfold bA;rw [if_neg d1,show c=(c.toNat:Int) by omega,yJ,Int.toNat_natCast]
def bV (C:aW) (k:Int):Nat:=bA k (C.n*C.sz) / C.sz
def dF (C:aW) (k:Int):Nat:=bA k (C.n*C.sz)%C.sz
theorem qD {C:aW} {k:Int} (hn:0<C.n) (hs:0<C.sz):bV C k<C.n∧dF C k<C.sz:=by
 have h:=gF k (Nat.mul_pos hn hs);refine ⟨?_,Nat.mod_lt _ hs⟩;unfold bV;rw [Nat.div_lt_iff_lt_mul hs];exact h
section
variable {w:World} {bs bc:Nat} {S:Sit} {a:xC}
theorem nI (hm:w.heap[bs]? = some (.cells (fI bc S a).toArray 44)) (hn:0<S.C.n∧S.C.n≤4) (hs:0<S.C.sz∧S.C.sz≤5) (k:Int) (h0 : -9223372036854775808≤k) (h1:k<9223372036854775808):af Tryz.prog 23 #[.pointer (some ⟨bs,0,none⟩),.int .i64 k] w (fun v w'=>v=.agg #[.int .u8 (bV S.C k),.int .u8 (dF S.C k)]∧GB none w w'):=by
 refine ah au mixed Tryz.func23 rfl rfl ?_;refine fun w1 b1 m1 g1 l1=>?_
 have hm1:=g1.get hm nofun;have hp:0<S.C.n*S.C.sz:=Nat.mul_pos hn.1 hs.1;have hle:S.C.n*S.C.sz≤20:=Nat.mul_le_mul hn.2 hs.2;have hj:=gF k hp;obtain ⟨q1,q2⟩:=qD (k:=k) hn.1 hs.1;have pk:=iR w1 k (S.C.n*S.C.sz) hp h0 h1;rw [Int.natCast_mul] at pk;have af2:(S.C.n:Int)*S.C.sz≤20:=by rw [← Int.natCast_mul];omega
 have hge':(0:Int)≤(S.C.n:Int)*S.C.sz:=by rw [← Int.natCast_mul];omega
 refine ⟨by kernel_rfl,_,_,hm1,_,rfl,_,_,hm1,_,rfl,by omega,_,pk,?_⟩;rintro _ w2 ⟨rfl,rfl⟩;have hq:IntKind.i64.wrap (((bA k (S.C.n*S.C.sz):Nat):Int).tdiv (S.C.sz:Int))=((bV S.C k:Nat):Int):=by
  have e:((bA k (S.C.n*S.C.sz):Nat):Int).tdiv (S.C.sz:Int)=((bV S.C k:Nat):Int):=by
   rw [Int.tdiv_eq_ediv_of_nonneg (Int.natCast_nonneg _)];unfold bV;omega
  rw [e,Go.IntWalk.i64_in _ ⟨by omega,by omega⟩]
 have hr:((bA k (S.C.n*S.C.sz):Nat):Int).tmod (S.C.sz:Int)=((dF S.C k:Nat):Int):=by rw [yJ];rfl
 have nz:((S.C.sz:Nat):Int)≠0:=by omega
 refine ⟨by kernel_rfl,_,_,hm1,_,rfl,nz,.inl ⟨⟨by rw [hq];omega,by rw [hq];omega⟩,_,_,hm1,_,rfl,nz,.inl ⟨⟨by rw [hr];omega,by rw [hr];omega⟩,?_⟩⟩⟩;rw [hq,hr];refine ⟨_,_,_,m1,rfl,rfl,fun w3 m3 g3=>?_⟩;exact ⟨_,_,m3,[.int .u8 (bV S.C k),.int .u8 (dF S.C k)],rfl,rfl,rfl,g1.new g3 l1⟩
end
def jI (k:Int):Int:=if k.tmod 11 == 10 then 18446744073709551615 else k.tmod 11
theorem Ey (w:World) (k:Int):af Tryz.prog 10 #[.int .u64 k] w (fun v w'=>v=.int .u64 (jI k)∧w'=w):=by
 refine ah au mixed Tryz.func10 rfl rfl ?_;unfold jI;refine ⟨by decide,aj (fun c=>?_) (fun c=>?_)⟩
 ·have c1:(k.tmod 11 == 10)=true:=c
  exact ⟨by rw [if_pos c1],rfl⟩
 ·have c1:¬ (k.tmod 11 == 10)=true:=fun e=>by have:(k.tmod 11 == 10)=false:=c;rw [this] at e;cases e
  exact ⟨by decide,by rw [if_neg c1],rfl⟩
def dD (q:bH):bH:=⟨q.c.tmod 3,1+q.s.tmod 9,1+q.k.tmod 4,jI q.key,if (1+q.k.tmod 4 == 2)=true then q.v else 0,if (1+q.k.tmod 4 == 4)=true then (if jI q.hi<jI q.key then jI q.key else jI q.hi) else 0,if (1+q.k.tmod 4 == 4)=true then q.to.tmod 4 else 0⟩
theorem TP (w:World) (q:bH) (hs:0≤q.s) (hk:0≤q.k):af Tryz.prog 52 #[.agg q.cells.toArray] w (fun v w'=>v=.agg (dD q).cells.toArray∧GB none w w'):=by
 refine ah au mixed Tryz.func52 rfl rfl ?_;refine fun w1 b1 m1 g1 l1 w2 b2 m2 g2 l2=>?_
 have m12:=g2.get m1 nofun;have s9:0≤q.s.tmod 9∧q.s.tmod 9<9:=⟨Int.tmod_nonneg _ hs,Int.tmod_lt_of_pos _ (by decide)⟩;have k4:0≤q.k.tmod 4∧q.k.tmod 4<4:=⟨Int.tmod_nonneg _ hk,Int.tmod_lt_of_pos _ (by decide)⟩;refine ⟨by kernel_rfl,?_⟩;refine ⟨_,_,m12,_,rfl,by decide,_,_,m12,_,rfl,by decide,⟨by omega,by omega⟩,_,_,m12,_,rfl,by decide,⟨by omega,by omega⟩,_,_,m12,_,rfl,?_⟩;refine ⟨⟨_,Ey w2 q.key,?_⟩,fun w3 b3 m3 g3 l3=>?_⟩
 ·rintro _ w2 ⟨rfl,rfl⟩
  refine ⟨⟨m12,m12,m12,m12,trivial⟩,fun w3 b3 m3 g3 l3=>⟨⟨g3.get m12 nofun,g3.get m12 nofun,g3.get m12 nofun,g3.get m12 nofun,trivial⟩,_,_,_,m3,rfl,rfl,fun w4 m4 g4=>?_⟩⟩;have rZ:GB none w2 w4:=g3.new g4 l3;have m14:w4.heap[b1]? = _:=rZ.get m12 nofun;have m24:w4.heap[b2]? = _:=rZ.get m2 nofun;have AJ:b2≠b3:=by have:=ae m2;omega
  have QI:b1≠b3:=by have:=ae m12;omega
  refine ⟨_,_,m4,_,rfl,aj (fun c=>?_) (fun c=>?_)⟩
  ·have c1:(1+q.k.tmod 4 == 2)=true:=c
   have c2:¬ (1+q.k.tmod 4 == 4)=true:=fun e=>by have:=eq_of_beq c1;have:=eq_of_beq e;omega
   refine ⟨_,_,m14,_,rfl,_,_,_,m4,rfl,rfl,fun w5 m5 g5=>?_⟩;have tK:w5.heap[b2]? = _:=g5.get m24 fun e=>AJ (Option.some.inj e)
   refine ⟨_,_,m5,(dD q).cells,by unfold dD;rw [if_pos c1,if_neg c2,if_neg c2];rfl,rfl,_,_,_,tK,rfl,rfl,fun w6 m6 g6=>?_⟩;exact ⟨_,_,m6,(dD q).cells,rfl,rfl,rfl,(g1.trans ((g2.trans (rZ.new g5 l3)))).new g6 (by have:=g1.size;omega)⟩
  ·have c1:¬ (1+q.k.tmod 4 == 2)=true:=fun e=>by have:(1+q.k.tmod 4 == 2)=false:=c;rw [this] at e;cases e
   refine aj (fun d=>?_) (fun d=>?_)
   ·have c2:(1+q.k.tmod 4 == 4)=true:=d
    refine ⟨_,_,m14,_,rfl,_,Ey w4 q.hi,?_⟩;rintro _ w5 ⟨rfl,rfl⟩;refine ⟨_,_,_,m4,rfl,rfl,fun w5 m5 g5=>?_⟩;have m15:w5.heap[b1]? = _:=g5.get m14 fun e=>QI (Option.some.inj e)
    have tK:w5.heap[b2]? = _:=g5.get m24 fun e=>AJ (Option.some.inj e)
    refine ⟨_,_,m5,_,rfl,_,_,m5,_,rfl,aj (fun x=>?_) (fun x=>?_)⟩
    ·have x1:jI q.hi<jI q.key:=of_decide_eq_true x
     refine ⟨_,_,m5,_,rfl,_,_,_,m5,rfl,rfl,fun w6 m6 g6=>?_⟩;have m16:w6.heap[b1]? = _:=g6.get m15 fun e=>QI (Option.some.inj e)
     have ZK:w6.heap[b2]? = _:=g6.get tK fun e=>AJ (Option.some.inj e)
     refine ⟨_,_,m16,_,rfl,by decide,_,_,_,m6,rfl,rfl,fun w7 m7 g7=>?_⟩;have Gx:w7.heap[b2]? = _:=g7.get ZK fun e=>AJ (Option.some.inj e)
     refine ⟨_,_,m7,(dD q).cells,by unfold dD;rw [if_neg c1,if_pos c2,if_pos x1,if_pos c2];rfl,rfl,_,_,_,Gx,rfl,rfl,fun w8 m8 g8=>?_⟩;exact ⟨_,_,m8,(dD q).cells,rfl,rfl,rfl,(g1.trans ((g2.trans (((rZ.new g5 l3).new g6 l3).new g7 l3)))).new g8 (by have:=g1.size;omega)⟩
    ·have x1:¬ jI q.hi<jI q.key:=of_decide_eq_false x
     refine ⟨_,_,m15,_,rfl,by decide,_,_,_,m5,rfl,rfl,fun w7 m7 g7=>?_⟩;have Gx:w7.heap[b2]? = _:=g7.get tK fun e=>AJ (Option.some.inj e)
     refine ⟨_,_,m7,(dD q).cells,by unfold dD;rw [if_neg c1,if_pos c2,if_neg x1,if_pos c2];rfl,rfl,_,_,_,Gx,rfl,rfl,fun w8 m8 g8=>?_⟩;exact ⟨_,_,m8,(dD q).cells,rfl,rfl,rfl,(g1.trans ((g2.trans ((rZ.new g5 l3).new g7 l3)))).new g8 (by have:=g1.size;omega)⟩
   ·have c2:¬ (1+q.k.tmod 4 == 4)=true:=fun e=>by have:(1+q.k.tmod 4 == 4)=false:=d;rw [this] at e;cases e
    refine ⟨_,_,m4,(dD q).cells,by unfold dD;rw [if_neg c1,if_neg c2,if_neg c2];rfl,rfl,_,_,_,m24,rfl,rfl,fun w6 m6 g6=>?_⟩;exact ⟨_,_,m6,(dD q).cells,rfl,rfl,rfl,(g1.trans (g2.trans rZ)).new g6 (by have:=g1.size;omega)⟩
 ·have m13:=g3.get m12 nofun
  refine ⟨⟨m13,m13,m13,m13,trivial⟩,_,Ey w3 q.key,?_⟩;rintro _ w4 ⟨rfl,rfl⟩;refine ⟨⟨m13,m13,m13,m13,trivial⟩,_,_,_,m3,rfl,rfl,fun w4 m4 g4=>?_⟩;have rZ:GB none w2 w4:=g3.new g4 l3;have m14:w4.heap[b1]? = _:=rZ.get m12 nofun;have m24:w4.heap[b2]? = _:=rZ.get m2 nofun;have AJ:b2≠b3:=by have:=ae m2;omega
  have QI:b1≠b3:=by have:=ae m12;omega
  refine ⟨_,_,m4,_,rfl,aj (fun c=>?_) (fun c=>?_)⟩
  ·have c1:(1+q.k.tmod 4 == 2)=true:=c
   have c2:¬ (1+q.k.tmod 4 == 4)=true:=fun e=>by have:=eq_of_beq c1;have:=eq_of_beq e;omega
   refine ⟨_,_,m14,_,rfl,_,_,_,m4,rfl,rfl,fun w5 m5 g5=>?_⟩;have tK:w5.heap[b2]? = _:=g5.get m24 fun e=>AJ (Option.some.inj e)
   refine ⟨_,_,m5,(dD q).cells,by unfold dD;rw [if_pos c1,if_neg c2,if_neg c2];rfl,rfl,_,_,_,tK,rfl,rfl,fun w6 m6 g6=>?_⟩;exact ⟨_,_,m6,(dD q).cells,rfl,rfl,rfl,(g1.trans ((g2.trans (rZ.new g5 l3)))).new g6 (by have:=g1.size;omega)⟩
  ·have c1:¬ (1+q.k.tmod 4 == 2)=true:=fun e=>by have:(1+q.k.tmod 4 == 2)=false:=c;rw [this] at e;cases e
   refine aj (fun d=>?_) (fun d=>?_)
   ·have c2:(1+q.k.tmod 4 == 4)=true:=d
    refine ⟨_,_,m14,_,rfl,_,Ey w4 q.hi,?_⟩;rintro _ w5 ⟨rfl,rfl⟩;refine ⟨_,_,_,m4,rfl,rfl,fun w5 m5 g5=>?_⟩;have m15:w5.heap[b1]? = _:=g5.get m14 fun e=>QI (Option.some.inj e)
    have tK:w5.heap[b2]? = _:=g5.get m24 fun e=>AJ (Option.some.inj e)
    refine ⟨_,_,m5,_,rfl,_,_,m5,_,rfl,aj (fun x=>?_) (fun x=>?_)⟩
    ·have x1:jI q.hi<jI q.key:=of_decide_eq_true x
     refine ⟨_,_,m5,_,rfl,_,_,_,m5,rfl,rfl,fun w6 m6 g6=>?_⟩;have m16:w6.heap[b1]? = _:=g6.get m15 fun e=>QI (Option.some.inj e)
     have ZK:w6.heap[b2]? = _:=g6.get tK fun e=>AJ (Option.some.inj e)
     refine ⟨_,_,m16,_,rfl,by decide,_,_,_,m6,rfl,rfl,fun w7 m7 g7=>?_⟩;have Gx:w7.heap[b2]? = _:=g7.get ZK fun e=>AJ (Option.some.inj e)
     refine ⟨_,_,m7,(dD q).cells,by unfold dD;rw [if_neg c1,if_pos c2,if_pos x1,if_pos c2];rfl,rfl,_,_,_,Gx,rfl,rfl,fun w8 m8 g8=>?_⟩;exact ⟨_,_,m8,(dD q).cells,rfl,rfl,rfl,(g1.trans ((g2.trans (((rZ.new g5 l3).new g6 l3).new g7 l3)))).new g8 (by have:=g1.size;omega)⟩
    ·have x1:¬ jI q.hi<jI q.key:=of_decide_eq_false x
     refine ⟨_,_,m15,_,rfl,by decide,_,_,_,m5,rfl,rfl,fun w7 m7 g7=>?_⟩;have Gx:w7.heap[b2]? = _:=g7.get tK fun e=>AJ (Option.some.inj e)
     refine ⟨_,_,m7,(dD q).cells,by unfold dD;rw [if_neg c1,if_pos c2,if_neg x1,if_pos c2];rfl,rfl,_,_,_,Gx,rfl,rfl,fun w8 m8 g8=>?_⟩;exact ⟨_,_,m8,(dD q).cells,rfl,rfl,rfl,(g1.trans ((g2.trans ((rZ.new g5 l3).new g7 l3)))).new g8 (by have:=g1.size;omega)⟩
   ·have c2:¬ (1+q.k.tmod 4 == 4)=true:=fun e=>by have:(1+q.k.tmod 4 == 4)=false:=d;rw [this] at e;cases e
    refine ⟨_,_,m4,(dD q).cells,by unfold dD;rw [if_neg c1,if_neg c2,if_neg c2];rfl,rfl,_,_,_,m24,rfl,rfl,fun w6 m6 g6=>?_⟩;exact ⟨_,_,m6,(dD q).cells,rfl,rfl,rfl,(g1.trans (g2.trans rZ)).new g6 (by have:=g1.size;omega)⟩
end
end Go.Proofs.YtignemioillaiabGreat
