/- Lemmas. -/
import Derived.Test.YtignemioillaiaaGreatG14
namespace Go.Proofs.YtignemioillaiaaGreat
set_option maxHeartbeats 8000000
set_option maxRecDepth 100000
open List
section
open Go
abbrev Sg:=List (Nat×Value)
noncomputable def at?(s:Sg)(i:Nat):Option Value:=rec none (λp _ ih=>bif Nat.beq i p.1 then some p.2 else ih) s
theorem at?_cons(j:Nat)(v:Value)(s:Sg)(i:Nat):at? ((j,v)::s) i=bif Nat.beq i j then some v else at? s i:=rfl
noncomputable def ev(s:Sg):Operand->Option Value
 |.tmp t=>at? s t
 |.const v=>some v
 |.global g=>some (.pointer (some ⟨g,0,none⟩))
 |.func f=>some (.func (.func f) #[] #[])
inductive Qr where
 |v (x:Value)|c (p:Prop) (x:Value)|d (p:Prop) (x y:Value)|no
def Qr.ok(P:Program)(s:Sem Next):Qr->Prop
 |.v x=>aW P s=some (.value x)
 |.c p x=>p->aW P s=some (.value x)
 |.d p x y=>aW P s=some (.value y)/\(p->x=y)
 |.no=>True
def zb(r:Int):IntKind->Qr
 |.u8=>.c (0<=r/\r<=255) (.int .u8 r)
 |.u16=>.c (0<=r/\r<=65535) (.int .u16 r)
 |.u32=>.c (0<=r/\r<=4294967295) (.int .u32 r)
 |.u64=>.c (0<=r/\r<=18446744073709551615) (.int .u64 r)
 |.i64=>.c (-9223372036854775808<=r/\r<=9223372036854775807) (.int .i64 r)
 |_=>.no
def aeR(r:Int):IntKind->Qr
 |.u8=>.d (0<=r/\r<=255) (.int .u8 r) (.int .u8 (IntKind.u8.wrap r))
 |.u32=>.d (0<=r/\r<=4294967295) (.int .u32 r) (.int .u32 (IntKind.u32.wrap r))
 |.u64=>.d (0<=r/\r<=18446744073709551615) (.int .u64 r) (.int .u64 (IntKind.u64.wrap r))
 |.i64=>.d (-9223372036854775808<=r/\r<=9223372036854775807) (.int .i64 r) (.int .i64 (IntKind.i64.wrap r))
 |_=>.no
def EZ:IntKind->IntKind->Bool
 |.i64,.i64=>true
 |.u8,.u8=>true
 |.u32,.u32=>true
 |.u64,.u64=>true
 |_,_=>false
theorem JZ{k l:IntKind}(h:EZ k l=true):k=l:=by cases k<;>cases l<;>first|rfl|cases h
def Be(op:BinOp)(k:IntKind)(a c:Int):Qr:=match op with
 |.add=>zb (a+c) k
 |.sub=>zb (a - c) k
 |.mul=>zb (a*c) k
 |.rem=>.c (c≠0) (.int k (a.tmod c))
 |.quo=>.c (c≠0) (.int k (k.wrap (a.tdiv c)))
 |.and=>.v (.int k (k.wrap (BitVec.ofInt k.bits a &&& BitVec.ofInt k.bits c).toNat))
 |.or=>.v (.int k (k.wrap (BitVec.ofInt k.bits a ||| BitVec.ofInt k.bits c).toNat))
 |.xor=>.no
 |.andNot=>.no
 |.eql=>.v (.bool (a == c))
 |.neq=>.v (.bool (a != c))
 |.lss=>.v (.bool (decide (a<c)))
 |.leq=>.v (.bool (decide (a<=c)))
 |.gtr=>.v (.bool (decide (a > c)))
 |.geq=>.v (.bool (decide (a>=c)))
 |_=>.no
def Zu:Value->Value->Bool
 |.int _ a,.int _ b=>a == b
 |.bool a,.bool b=>a == b
 |.string a,.string b=>a == b
 |_,_=>false
def allEq:List Value->List Value->Bool
 |x::xs,y::ys=>Zu x y && allEq xs ys
 |_,_=>true
noncomputable def aca(T:iY):Nat->Nat->Bool
 |0,_=>false
 |n+1,t=>match T.get t with
  |some (.i _)=>true
  |some .o=>true
  |some .t=>true
  |some (.s fs)=>fs.all (aca T n)
  |_=>false
def J2:List Value->List Value->Bool
 | [],[]=>true
 |.int k _::xs,.int l _::ys=>EZ k l && J2 xs ys
 |.bool _::xs,.bool _::ys=>J2 xs ys
 |.string _::xs,.string _::ys=>J2 xs ys
 |_,_=>false
noncomputable def DV(T:iY)(op:BinOp)(t:Nat):Option Value->Option Value->Qr
 |some (.int k a),some (.int l c)=>match op with
  |.shl=>.c (0<=c) (.int k (k.wrap (a*2 ^ min c.toNat k.bits)))
  |.shr=>.c (0<=c) (.int k (a.fdiv (2 ^ min c.toNat k.bits)))
  |op=>bif EZ k l then Be op k a c else .no
 |some (.bool a),some (.bool c)=>match op,T.get t with
  |.eql,some .o=>.v (.bool (a == c))
  |.neq,some .o=>.v (.bool (!(a == c)))
  |_,_=>.no
 |some (.string a),some (.string c)=>match op with
  |.eql=>.v (.bool (a.toList == c.toList))
  |.neq=>.v (.bool (!(a.toList == c.toList)))
  |_=>.no
 |some (.pointer a),some (.pointer none)=>match op,T.get t with
  |.eql,some .p=>.v (.bool a.isNone)
  |.neq,some .p=>.v (.bool (!a.isNone))
  |_,_=>.no
 |some (.slice a _ _),some (.slice none _ _)=>match op,T.get t with
  |.eql,some (.l _)=>.v (.bool a.isNone)
  |.neq,some (.l _)=>.v (.bool (!a.isNone))
  |_,_=>.no
 |_,_=>.no
def Ib(ρ:Operand->Option Value):List Operand->Option (List Value)
 | []=>some []
 |x::xs=>match ρ x,Ib ρ xs with
  |some v,some vs=>some (v::vs)
  |_,_=>none
def aK(l:List Value)(d n:Nat):List Value:=(l.drop d).take n
def wU(places:List (Nat×Nat)):List Value->List (Nat×Value)->Option (List Value)
 |cs,[]=>some cs
 |cs,(i,v)::rest=>match places[i]? with
  |none=>none
  |some (off,n)=>bif Nat.beq v.cells.toList.length n && Nat.ble (off+n) cs.length then wU places (cs.take off++v.cells.toList++cs.drop (off+n)) rest else none
def J3(ρ:Operand->Option Value):List (Nat×Operand)->Option (List (Nat×Value))
 | []=>some []
 |(i,x)::xs=>match ρ x,J3 ρ xs with
  |some v,some vs=>some ((i,v)::vs)
  |_,_=>none
noncomputable def uh(T:iY)(ρ:Operand->Option Value):Op->Qr
 |.move x=>match ρ x with|some v=>.v v|none=>.no
 |.assign x=>match ρ x with|some v=>.v v|none=>.no
 |.pick c a b=>match ρ c,ρ a,ρ b with|some (.bool t),some u,some v=>.v (bif t then u else v)|_,_,_=>.no
 |.fieldAddr s x f=>match ρ x,T.get s with
  |some (.pointer (some ⟨b,o,none⟩)),some (.s fs)=>match(qY T fs 0)[f]? with
   |some (d,u)=>match T.get u with
    |some _=>bif Nat.beq (bD T u) 0 then .no else .v (.pointer (some ⟨b,o+d,none⟩))
    |none=>.no
   |none=>.no
  |_,_=>.no
 |.field s x f=>match ρ x,T.get s with
  |some (.agg cs),some (.s fs)=>match(qY T fs 0)[f]? with
   |some (d,u)=>match T.get u with
    |some (.s _)=>.v (.agg (aK cs.toList d (bD T u)).toArray)
    |some _=>match cs.toList[d]? with|some v=>.v v|none=>.no
    |none=>.no
   |none=>.no
  |_,_=>.no
 |.indexAddr t x i=>match ρ x,ρ i,T.get t with
  |some (.slice (some ⟨b,o,none⟩) n _),some (.int _ j),some (.l e)=>match T.get e with
   |some _=>.c (0<=j/\j<n) (.pointer (some ⟨b,o+j.toNat*bD T e,none⟩))
   |none=>.no
  |_,_,_=>.no
 |.index t x i=>match ρ x,ρ i,T.get t with
  |some (.string s),some (.int _ j),some .t=>.c (0<=j/\j<s.size) (.int .u8 (s.data.toList.getD j.toNat 0).toNat)
  |_,_,_=>.no
 |.binOp op t x y _=>DV T op t (ρ x) (ρ y)
 |.unOp op _ x=>match op,ρ x with | .not,some (.bool b)=>.v (.bool (!b)) | .neg,some (.int .i64 n)=>.c (-9223372036854775808<=0 - n/\0 - n<=9223372036854775807) (.int .i64 (0 - n))|_,_=>.no
 |.convert s d x=>match ρ x,T.get s,T.get d with
  |some (.int _ n),some (.i _),some (.i k)=>aeR n k
  |some (.string u),some .t,some .t=>.v (.string u)
  |_,_,_=>.no
 |.extract x i=>match ρ x with
  |some (.tuple vs)=>match vs.toList[i]? with|some v=>.v v|none=>.no
  |_=>.no
 |.build t ps=>match T.get t,J3 ρ ps.toList with
  |some (.s fs),some vs=>match wU ((qY T fs 0).map λp=>(p.1,bD T p.2)) (zc T t) vs with
   |some cs=>bif fs.all (λu=>(T.get u).isSome)then .v (.agg cs.toArray)else .no
   |none=>.no
  |_,_=>.no
 |.makeFunc fn a b=>match Ib ρ a.toList,Ib ρ b.toList with|some u,some v=>.v (.func fn u.toArray v.toArray)|_,_=>.no
 |.nilCheck x=>match ρ x with
  |some (.pointer (some a))=>.v (.pointer (some a))
  |some (.func (.func f) u v)=>.v (.func (.func f) u v)
  |_=>.no
 |.slice t x lo hi none=>match ρ x,T.get t with
  |some (.string s),some .t=>match lo.bind ρ,hi.bind ρ,lo.isNone,hi.isNone with
   |some (.int _ a),some (.int _ b),_,_=>.c (0<=a/\a<=b/\b<=s.size) (.string (s.extract a.toNat b.toNat))
   |some (.int _ a),none,_,true=>.c (0<=a/\a<=s.size) (.string (s.extract a.toNat s.size))
   |_,_,_,_=>.no
  |some (.slice a n cap),some (.l e)=>match T.get e with
   |some _=>match lo.bind ρ,hi.bind ρ,lo.isNone,hi.isNone with
    |some (.int _ l),some (.int _ h),_,_=>.c (0<=l/\l<=h/\h<=cap) (.slice (if cap=l.toNat then a else a.map (·.add (l.toNat*bD T e))) (h.toNat - l.toNat) (cap - l.toNat))
    |some (.int _ l),none,_,true=>.c (0<=l/\l<=n/\n<=cap) (.slice (if cap=l.toNat then a else a.map (·.add (l.toNat*bD T e))) (n - l.toNat) (cap - l.toNat))
    |none,some (.int _ h),true,_=>.c (0<=h/\h<=cap) (.slice a h.toNat cap)
    |_,_,_,_=>.no
   |none=>.no
  |_,_=>.no
 |.slice t x (some lo) (some hi) (some mx)=>match ρ x,T.get t with
  |some (.slice a _ cap),some (.l e)=>match T.get e with
   |some _=>match ρ lo,ρ hi,ρ mx with
    |some (.int _ l),some (.int _ h),some (.int _ m)=>.c (0<=l/\l<=h/\h<=m/\m<=cap) (.slice (if m.toNat=l.toNat then a else a.map (·.add (l.toNat*bD T e))) (h.toNat - l.toNat) (m.toNat - l.toNat))
    |_,_,_=>.no
   |none=>.no
  |_,_=>.no
 |.call { callee:=.builtin b,args,argTypes }=>match b,args.toList,argTypes.toList with
  |.len,[x],[t]=>match ρ x,T.get t with
   |some (.string s),some .t=>.v (.int .i64 s.size)
   |some (.slice _ n _),some (.l _)=>.v (.int .i64 n)
   |_,_=>.no
  |.cap,[x],[t]=>match ρ x,T.get t with
   |some (.slice _ _ n),some (.l _)=>.v (.int .i64 n)
   |_,_=>.no
  |.max,[x,y],_=>match ρ x,ρ y with
   |some (.int k a),some (.int _ b)=>.v (.int k (if b > a then b else a))
   |_,_=>.no
  |.min,[x,y],_=>match ρ x,ρ y with
   |some (.int k a),some (.int _ b)=>.v (.int k (if b<a then b else a))
   |_,_=>.no
  |_,_,_=>.no
 |_=>.no
end
section
open Go Go.IntWalk
section
variable{P:Program}{T:iY}{ρ:Operand->Option Value}{r:Operand->Value}
theorem acb{op:BinOp}{k l:IntKind}{t:Nat}{a c:Int}(h:EZ k l=true)(h1:op≠.shl)(h2:op≠.shr):∀x:Value,(Be op k a c=.v x->aW P (binOp op t (.int k a) (.int l c))=some x)/\(∀p,Be op k a c=.c p x->p->aW P (binOp op t (.int k a) (.int l c))=some x)/\(∀p y,Be op k a c≠.d p x y):=by
 have hk:=JZ h;subst hk;intro x;have rg:∀r p,zb r k=.c p x->p->Value.int k (k.wrap r)=x:=by
  intro r p he hp;cases k<;>simp only[zb,Qr.c.injEq,reduceCtorEq]at he
  ·obtain⟨rfl,rfl⟩:=he;rw[i64_in _ hp]
  ·obtain⟨rfl,rfl⟩:=he;rw[u8_in _ hp]
  ·obtain⟨rfl,rfl⟩:=he;rw[u16_in _ hp]
  ·obtain⟨rfl,rfl⟩:=he;rw[u32_in _ hp]
  ·obtain⟨rfl,rfl⟩:=he;rw[u64_in _ hp]
 have rv:∀r,zb r k≠.v x:=by intro r;cases k<;>simp[zb]
 have rd:∀r p y,zb r k≠.d p x y:=by intro r p y;cases k<;>simp[zb]
 refine⟨?_,?_,?_⟩
 ·intro he
  cases op<;>simp only[Be,Qr.v.injEq,reduceCtorEq]at he<;>first|exact absurd he (rv _)|(subst he;simp[binOp,Op.intBits,Op.intCmp,aH];done)|(exact absurd rfl h1)|(exact absurd rfl h2)
 ·intro p he hp
  cases op<;>simp only[Be,Qr.c.injEq,reduceCtorEq]at he
  ·simp[binOp,Op.intArith,aH,rg _ _ he hp]
  ·simp[binOp,Op.intArith,aH,rg _ _ he hp]
  ·simp[binOp,Op.intArith,aH,rg _ _ he hp]
  ·obtain⟨rfl,rfl⟩:=he
   simp[binOp,Op.intDiv,hp,aH]
  ·obtain⟨rfl,rfl⟩:=he
   simp[binOp,Op.intDiv,hp,aH]
 ·intro p y he
  cases op<;>simp only[Be,reduceCtorEq]at he<;>exact rd _ _ _ he
theorem QR{op:BinOp}{t:TypeId}{x y:Operand}{a b:Value}(h1:a≠.nilIface)(h2:∀c,a≠.agg c):aW P (eqGuard op t x y a b)=some ():=by
 cases a<;>first|exact absurd rfl h1|exact absurd rfl (h2 _)|(cases op<;>rfl)
theorem Ch{s:Sem Value}{x:Value}(h:aW P s=some x):aW P (do let v <- s;pure (Next.value v))=some (.value x):=by
 rw[aF,h];rfl
theorem eqO{t:TypeId}(h:P.underlying t=some .bool)(n:Nat)(a b:Bool):aW P (Op.equalIn (n+1) t (.bool a) (.bool b))=some (a == b):=by
 simp only[Op.equalIn,aF,bA h,Option.bind_some,aH]
theorem eqP{t e:TypeId}(h:P.underlying t=some (.pointer e))(n:Nat)(a:Option Addr):aW P (Op.equalIn (n+1) t (.pointer a) (.pointer none))=some a.isNone:=by
 cases a<;>simp only[Op.equalIn,aF,bA h,Option.bind_some,aH]<;>rfl
theorem eqL{t e:TypeId}(h:P.underlying t=some (.slice e))(n:Nat)(a:Option Addr)(l c l' c':Nat):aW P (Op.equalIn (n+1) t (.slice a l c) (.slice none l' c'))=some a.isNone:=by
 cases a<;>simp only[Op.equalIn,aF,bA h,Option.bind_some,aH]<;>rfl
theorem ace(hT:qh P T){op:BinOp}{t:Nat}{x y:Operand}{yt:TypeId}{dst:Option Tmp}{ty:TypeId}{pos:String}{after:Array Edge}{guard:Option (Nat×Bool)}(hr:∀x v,ρ x=some v->r x=v):(DV T op t (ρ x) (ρ y)).ok P (execOp r ⟨dst,.binOp op t x y yt,ty,pos,after,guard⟩):=by
 have base:execOp r ⟨dst,.binOp op t x y yt,ty,pos,after,guard⟩=(do let v <- (do eqGuard op t x y (r x) (r y);binOp op t (r x) (r y));pure (Next.value v)):=rfl;rw[base];have go:∀{a b v:Value},r x=a->r y=b->a≠.nilIface->(∀c,a≠.agg c)->aW P (binOp op t a b)=some v->aW P (do let v <- (do eqGuard op t x y (r x) (r y);binOp op t (r x) (r y));pure (Next.value v))=some (.value v):=by
  intro a b v ha hb h1 h2 h3;rw[ha,hb];refine Ch ?_;rw[aF,QR h1 h2];exact h3
 have Zv:∀{a b:Value} {v:Bool},aW P (Op.equal t a b)=some v->aW P (do pure (Value.bool (<-Op.equal t a b)))=some (.bool v):=λh=>by rw[aF,h];rfl
 have E5:∀{a b:Value} {v:Bool},aW P (Op.equal t a b)=some v->aW P (do pure (Value.bool (!(<-Op.equal t a b))))=some (.bool (!v)):=λh=>by rw[aF,h];rfl
 cases hx:ρ x with
 |none=>unfold DV;trivial
 |some a =>
  cases hy:ρ y with
  |none=>cases a<;>(unfold DV;trivial)
  |some b =>
   have ha:=hr _ _ hx;have hb:=hr _ _ hy;unfold DV;split
   ·rename_i k a k' c e1 e2
    cases e1;cases e2
    split
    ·exact λhp=>go ha hb nofun nofun (by simp[binOp,Op.shift,Int.not_lt.2 hp,aH])
    ·exact λhp=>go ha hb nofun nofun (by simp[binOp,Op.shift,Int.not_lt.2 hp,aH])
    ·rename_i h1 h2
     cases hk:EZ k k' with
     |false=>trivial
     |true =>
      dsimp only[cond_true];have q:=λz=>acb (P:=P) (t:=t) (a:=a) (c:=c) hk h1 h2 z
      cases hq:Be op k a c with
      |v z=>exact go ha hb nofun nofun ((q z).1 hq)
      |c p z=>exact λhp=>go ha hb nofun nofun ((q z).2.1 p hq hp)
      |d p z y=>exact absurd hq ((q z).2.2 p y)
      |no=>trivial
   ·rename_i a c e1 e2
    cases e1;cases e2
    split
    ·rename_i ht
     obtain⟨i,d,hd⟩:=hT.is ht;exact go ha hb nofun nofun (Zv (eqO (JX hd.kind▸hd.under) 9999 a c))
    ·rename_i ht
     obtain⟨i,d,hd⟩:=hT.is ht;exact go ha hb nofun nofun (E5 (eqO (JX hd.kind▸hd.under) 9999 a c))
    ·trivial
   ·rename_i a c e1 e2
    cases e1;cases e2
    split
    ·exact go ha hb nofun nofun (by simp[binOp,Op.stringOp,aH])
    ·exact go ha hb nofun nofun (by simp[binOp,Op.stringOp,aH])
    ·trivial
   ·rename_i a e1 e2
    cases e1;cases e2
    split
    ·rename_i ht
     obtain⟨i,d,hd⟩:=hT.is ht;obtain⟨e,rfl⟩:=O3 hd.kind;exact go ha hb nofun nofun (Zv (eqP hd.under 9999 a))
    ·rename_i ht
     obtain⟨i,d,hd⟩:=hT.is ht;obtain⟨e,rfl⟩:=O3 hd.kind;exact go ha hb nofun nofun (E5 (eqP hd.under 9999 a))
    ·trivial
   ·rename_i a _ _ _ _ e1 e2
    cases e1;cases e2
    split
    ·rename_i ht
     obtain⟨i,d,hd⟩:=hT.is ht;exact go ha hb nofun nofun (Zv (eqL (nN hd.kind▸hd.under) 9999 a _ _ _ _))
    ·rename_i ht
     obtain⟨i,d,hd⟩:=hT.is ht;exact go ha hb nofun nofun (E5 (eqL (nN hd.kind▸hd.under) 9999 a _ _ _ _))
    ·trivial
   ·trivial
end
theorem J4(b o n:Nat):(⟨b,o,none⟩:Addr).add n=⟨b,o+n,none⟩:=by
 unfold Addr.add;split
 ·subst_vars;rfl
 ·rfl
theorem MB(cs:Array Value)(d n:Nat):cs.extract d (d+n)=(aK cs.toList d n).toArray:=by
 apply Array.ext'
 simp[aK,Array.toList_extract,extract_eq_take_drop]
theorem O5{α β:Type}(P:Program)(f:α->β)(s:Sem α):aW P (f <$> s)=(aW P s).map f:=by
 have h:=aF P s λa=>(pure (f a):Sem β)
 rw[Option.map_eq_bind];exact h
section
variable{P:Program}{T:iY}{ρ:Operand->Option Value}{r:Operand->Value}
theorem E8 (hT : qh P T) {s : Nat} {fs : List Nat} (hs : T.get s = some (.s fs)) : ∃ fl : Array Field, P.underlying s = some (.struct fl) ∧ ∀ (f d u : Nat), (qY T fs 0)[f]? = some (d, u) → ∃ x : Field, fl[f]? = some x ∧ x.offset = d ∧ x.type = u ∧ (x.name == "_") = false := by
 obtain⟨i,d,hd⟩:=hT.is hs;obtain⟨fl,rfl,hfl⟩:=JY hd.kind;refine⟨fl,hd.under,λf d u hf=>?_⟩
 have h1 : (fl.toList.map fun f => (f.offset, f.type, f.name == "_"))[f]? = some (d, u, false) := by
  rw[hfl,getElem?_map,hf];rfl
 rw[getElem?_map,Array.getElem?_toList]at h1;cases hx:fl[f]? with
 |none=>rw[hx]at h1;cases h1
 |some x =>
  rw[hx]at h1;simp only[Option.map_some,Option.some.injEq,Prod.mk.injEq]at h1;exact⟨x,rfl,h1.1,h1.2.1,h1.2.2⟩
theorem ME(hT:qh P T){s f:Nat}{fs:List Nat}{b o d u:Nat}{z:Ty}(hs:T.get s=some (.s fs))(hf:(qY T fs 0)[f]? = some (d,u))(hu:T.get u=some z)(h0:¬bD T u=0):aW P (Instr.fieldAt s (.pointer (some ⟨b,o,none⟩)) f)=some (.pointer (some ⟨b,o+d,none⟩)):=by
 obtain⟨fl,h1,h2⟩:=E8 hT hs;obtain⟨x,hx,rfl,rfl,_⟩:=h2 f d u hf;obtain⟨i,dd,hd⟩:=hT.is hu;unfold Instr.fieldAt;simp only[aF,bA h1,Option.bind_some,hx,Instr.sureAddr,aH,fieldPlace,gZ hd.info,hd.size,h0,if_false,J4]
theorem QS(hT:qh P T){u:Nat}{z:Ty}{cs:Array Value}{d:Nat}(hu:T.get u=some z):aW P (part u cs d)=if kI z then some (.agg (aK cs.toList d (bD T u)).toArray)else cs.toList[d]?:=by
 obtain⟨i,dd,hd⟩:=hT.is hu;unfold part;rw[aF,O4 hT hu];cases hz:kI z with
 |true=>simp only[Option.bind_some,if_true,aF,gZ hd.info,hd.size,aH,MB]
 |false =>
  simp only[Option.bind_some,Bool.false_eq_true,if_false];rw[Array.getElem?_toList];cases cs[d]? <;> rfl
theorem M7(hT:qh P T){s f:Nat}{fs:List Nat}{cs:Array Value}{d u:Nat}{z:Ty}(hs:T.get s=some (.s fs))(hf:(qY T fs 0)[f]? = some (d,u))(hu:T.get u=some z):aW P (Instr.field s (.agg cs) f)=if kI z then some (.agg (aK cs.toList d (bD T u)).toArray)else cs.toList[d]?:=by
 obtain⟨fl,h1,h2⟩:=E8 hT hs;obtain⟨x,hx,rfl,rfl,_⟩:=h2 f d u hf;unfold Instr.field;simp only[aF,bA h1,Option.bind_some,hx,asAgg,aH,QS hT hu]
theorem XJ(hT:qh P T){t e:Nat}{z:Ty}{b o n c:Nat}{k:IntKind}{j:Int}(ht:T.get t=some (.l e))(he:T.get e=some z)(hj:0<=j/\j<n):aW P (Instr.indexAt t (.slice (some ⟨b,o,none⟩) n c) (.int k j))=some (.pointer (some ⟨b,o+j.toNat*bD T e,none⟩)):=by
 obtain⟨i,d,hd⟩:=hT.is ht;obtain⟨i',d',hd'⟩:=hT.is he;have hu:P.underlying t=some (.slice e):=nN hd.kind▸hd.under;unfold Instr.indexAt;simp only[aF,asIntOf,aH,Option.bind_some,bA hu,hj,and_self,if_true,gZ hd'.info,hd'.size,J4]
theorem Us(hT:qh P T){t:Nat}{s:ByteArray}{k:IntKind}{j:Int}(ht:T.get t=some .t)(hj:0<=j/\j<s.size):aW P (Instr.index t (.string s) (.int k j))=some (.int .u8 (s.data.toList.getD j.toNat 0).toNat):=by
 obtain⟨i,d,hd⟩:=hT.is ht;have hu:P.underlying t=some .string:=za hd.kind▸hd.under;have hl:j.toNat<s.size:=by omega
 have h1:s[j.toNat]? = some (s.data.toList.getD j.toNat 0):=by
  have h2:j.toNat<s.data.toList.length:=by simpa using hl
  rw[getD_eq_getElem?_getD,getElem?_eq_getElem h2];simp only[Option.getD_some];rw[getElem?_pos s j.toNat hl];congr 1
 unfold Instr.index;simp only[aF,asIntOf,aH,Option.bind_some,bA hu,hj.1,if_true,h1]
theorem Ci{l:List Operand}{vs:List Value}(hr:∀x v,ρ x=some v->r x=v)(h:Ib ρ l=some vs):l.map r=vs:=by
 induction l generalizing vs with
 |nil=>simp only[Ib,Option.some.injEq]at h;subst h;rfl
 |cons x xs ih =>
  simp only[Ib]at h;split at h
  ·rename_i v vs' h1 h2
   simp only[Option.some.injEq]at h;subst h;simp[hr _ _ h1,ih h2]
  ·cases h
theorem M8{l:List (Nat×Operand)}{vs:List (Nat×Value)}(hr:∀x v,ρ x=some v->r x=v)(h:J3 ρ l=some vs):l.map (λp=>(p.1,r p.2))=vs:=by
 induction l generalizing vs with
 |nil=>simp only[J3,Option.some.injEq]at h;subst h;rfl
 |cons x xs ih =>
  obtain⟨i,x⟩:=x;simp only[J3]at h;split at h
  ·rename_i v vs' h1 h2
   simp only[Option.some.injEq]at h;subst h;simp[hr _ _ h1,ih h2]
  ·cases h
theorem Ut(vs:List Value)(cs:Array Value)(off j:Nat)(h:off+j+vs.length<=cs.size):((vs.zipIdx j).foldl (λcs (p:Value×Nat)=>cs.setIfInBounds (off+p.2) p.1) cs).toList=cs.toList.take (off+j)++vs++cs.toList.drop (off+j+vs.length):=by
 induction vs generalizing cs j with
 |nil=>simp
 |cons v vs ih =>
  simp only[zipIdx_cons,foldl_cons,length_cons]at h |-;rw[ih _ _ (by simp;omega)];simp only[Array.toList_setIfInBounds];have hl:off+j<cs.toList.length:=by simp;omega
  rw[set_eq_take_append_cons_drop,if_pos hl];have e1:(cs.toList.take (off+j)).length=off+j:=by rw[length_take];omega
  have e2:off+(j+1)=off+j+1:=by omega
  rw[e2,take_append,take_of_length_le (by rw[e1];omega),e1,show off+j+1 - (off+j)=1 by omega,take_succ_cons,take_zero];rw[drop_append,drop_of_length_le (by rw[e1];omega),e1,show off+j+1+vs.length - (off+j)=vs.length+1 by omega,drop_succ_cons,drop_drop];rw[show off+j+1+vs.length=off+j+(vs.length+1)by omega];simp
theorem QT{pl:List (Nat×Nat)}{place:Nat->Option (Nat×Nat)}(hp:∀i,place i=pl[i]?){cs:List Value}{vs:List (Nat×Value)}{out:List Value}(h:wU pl cs vs=some out):Instr.fill place cs.toArray vs=some out.toArray:=by
 induction vs generalizing cs with
 |nil=>simp only[wU,Option.some.injEq]at h;subst h;rfl
 |cons p rest ih =>
  obtain⟨i,v⟩:=p;unfold wU at h;unfold Instr.fill;rw[hp];cases hi:pl[i]? with
  |none=>rw[hi]at h;cases h
  |some q =>
   obtain⟨off,n⟩:=q;rw[hi]at h;dsimp only at h |-;cases hb:(Nat.beq v.cells.toList.length n && Nat.ble (off+n) cs.length)with
   |false=>rw[hb]at h;cases h
   |true =>
    rw[hb]at h;simp only[Bool.and_eq_true]at hb;have h1:=Nat.eq_of_beq_eq_true hb.1;have h2:=Nat.le_of_ble_eq_true hb.2;subst h1;rw[Array.length_toList]at h2 h;have hc:(decide (v.cells.size≠v.cells.toList.length) || decide (off+v.cells.size > cs.toArray.size))=false:=by
     simp;omega
    rw[if_neg (by rw[hc];decide)];have e:(v.cells.zipIdx.foldl (λcs (p:Value×Nat)=>cs.setIfInBounds (off+p.2) p.1) cs.toArray)=(cs.take off++v.cells.toList++cs.drop (off+v.cells.size)).toArray:=by
     apply Array.ext'
     have e2:v.cells.zipIdx=v.cells.toList.zipIdx.toArray:=by apply Array.ext';simp
     rw[e2];have:=Ut v.cells.toList cs.toArray off 0 (by simp;omega);simpa using this
    exact(congrArg (λz=>Instr.fill place z rest) e).trans (ih h)
theorem XK(hT:qh P T){t:Nat}{fs:List Nat}(ht:T.get t=some (.s fs)){vs:List (Nat×Value)}{cs:List Value}(hf:wU ((qY T fs 0).map λp=>(p.1,bD T p.2)) (zc T t) vs=some cs)(ha:fs.all (λu=>(T.get u).isSome)=true):aW P (Instr.build t vs.toArray)=some (.agg cs.toArray):=by
 obtain⟨i,d,hd⟩:=hT.is ht;obtain⟨fl,rfl,hfl⟩:=JY hd.kind;have hz:aW P (zeroValue t)=some (.agg (zc T t).toArray):=by
  rw[tJ hd.info hd.zero];unfold zv kI;rfl
 have hm:∀l:List Field,(∀x∈l,(T.get x.type).isSome=true)->aW P (l.mapM λf=>do pure (f.offset,<-sizeOf f.type))=some (l.map λf=>(f.offset,bD T f.type)):=by
  intro l hl;induction l with
  |nil=>rfl
  |cons x xs ih =>
   obtain⟨z,hz⟩:=Option.isSome_iff_exists.1 (hl x mem_cons_self);obtain⟨i',d',hd'⟩:=hT.is hz;rw[mapM_cons,aF,aF,gZ hd'.info,hd'.size];simp only[Option.bind_some,aH,aF];rw[ih λy hy=>hl y (mem_cons_of_mem _ hy)];rfl
 have hal:∀x∈fl.toList,(T.get x.type).isSome=true:=by
  have h1:∀(l:List Nat) (o:Nat),(qY T l o).map Prod.snd=l:=by
   intro l;induction l with
   |nil=>intro;rfl
   |cons y ys ih=>intro o;simp[qY,ih]
  intro x hx;have h2:x.type∈fs:=by
   have h3 : (fl.toList.map fun f => (f.offset, f.type, f.name == "_")).map (fun p => p.2.1) = fs := by
    rw[hfl,map_map];exact(h1 fs 0)
   rw[<-h3,map_map];exact mem_map.2 ⟨x,hx,rfl⟩
  exact all_eq_true.1 ha _ h2
 have hpl:(fl.toList.map λf=>(f.offset,bD T f.type))=(qY T fs 0).map λp=>(p.1,bD T p.2):=by
  have : (fl.toList.map fun f => (f.offset, f.type, f.name == "_")).map (fun p => (p.1, bD T p.2.1)) = (qY T fs 0).map fun p => (p.1, bD T p.2) := by
   rw[hfl,map_map];rfl
  rw[<-this,map_map];rfl
 unfold Instr.build;rw[aF,hz];simp only[Option.bind_some,aF,bA hd.under];rw[show(fl.mapM λf=>do pure (f.offset,<-sizeOf f.type):Sem (Array (Nat×Nat)))=toArray <$> (fl.toList.mapM λf=>do pure (f.offset,<-sizeOf f.type))from(Array.mapM_eq_mapM_toList ..)];rw[O5,hm _ hal];simp only[Option.map_some,Option.bind_some];have hff:=QT (pl:=fl.toList.map λf=>(f.offset,bD T f.type)) (place:=λi=>((fl.toList.map λf=>(f.offset,bD T f.type)).toArray)[i]?) (λi=>by simp) (hpl▸hf);have e:Value.cells (.agg (zc T t).toArray)=(zc T t).toArray:=rfl;rw[e,hff];rfl
end
noncomputable def xL(T:iY):Nat->Nat->List Value->List Value->Option Bool
 |0,_,_,_=>none
 |n+1,t,xs,ys=>match T.get t with
  |some (.i k)=>match xs,ys with
   | [.int k1 a],[.int k2 b]=>bif EZ k1 k && EZ k2 k then some (a == b)else none
   |_,_=>none
  |some .o=>match xs,ys with
   | [.bool a],[.bool b]=>some (a == b)
   |_,_=>none
  |some .t=>match xs,ys with
   | [.string a],[.string b]=>some (a == b)
   |_,_=>none
  |some (.s fs)=>(qY T fs 0).foldr (λp acc=>match xL T n p.2 (aK xs p.1 (bD T p.2)) (aK ys p.1 (bD T p.2)),acc with
   |some a,some b=>some (a && b)
   |_,_=>none) (some true)
  |_=>none
def toV(x:Ty)(l:List Value):Option Value:=if kI x then some (.agg l.toArray)else match l with
 | [v]=>some v
 |_=>none
section
variable{P:Program}{T:iY}
theorem aeS{l:List Value}{d:Nat}{v:Value}(h:aK l d 1=[v]):l[d]? = some v:=by
 have:(aK l d 1)[0]? = some v:=by rw[h];rfl
 unfold aK at this;rw[getElem?_take,if_pos (by decide),getElem?_drop]at this;simpa using this
theorem J5{n t:Nat}{y:Ty}{xs ys:List Value}{a:Bool}(hy:T.get t=some y)(hs:kI y=false)(h:xL T n t xs ys=some a):(∃v,xs=[v])/\∃v,ys=[v]:=by
 cases n with
 |zero=>cases h
 |succ n =>
  unfold xL at h;rw[hy]at h;cases y with
  |s=>cases hs
  |i=>dsimp only at h;split at h;exact⟨⟨_,rfl⟩,⟨_,rfl⟩⟩;cases h
  |o=>dsimp only at h;split at h;exact⟨⟨_,rfl⟩,⟨_,rfl⟩⟩;cases h
  |t=>dsimp only at h;split at h;exact⟨⟨_,rfl⟩,⟨_,rfl⟩⟩;cases h
  |_=>cases h
theorem QU(hT:qh P T)(hs:∀t fs,T.get t=some (.s fs)->P.stoodInHeld t=false):∀(n m t:Nat) (x:Ty) (xs ys:List Value) (u v:Value) (b:Bool),T.get t=some x->xL T n t xs ys=some b->toV x xs=some u->toV x ys=some v->aW P (Op.equalIn (n+m) t u v)=some b:=by
 intro n;induction n with
 |zero=>intro m t x xs ys u v b _ h;cases h
 |succ n ih =>
  intro m t x xs ys u v b hx h hu hv;obtain⟨i,d,hd⟩:=hT.is hx;rw[show n+1+m=(n+m)+1 by omega];unfold xL at h;rw[hx]at h;have hk:=hd.kind;cases x with
  |i k =>
   dsimp only at h;split at h
   ·rename_i k1 a k2 c
    cases hb:(EZ k1 k && EZ k2 k)with
    |false=>rw[hb]at h;cases h
    |true =>
     rw[hb]at h;simp only[Bool.and_eq_true]at hb;have e1:=JZ hb.1;have e2:=JZ hb.2;subst e1 e2;simp only[toV,kI,Bool.false_eq_true,if_false,Option.some.injEq]at hu hv;subst hu hv;simp only[cond_true,Option.some.injEq]at h;simp only[Op.equalIn,aF,bA (Bc hk▸hd.under),Option.bind_some,if_true,aH,h]
   ·cases h
  |o =>
   dsimp only at h;split at h
   ·simp only[toV,kI,Bool.false_eq_true,if_false,Option.some.injEq]at hu hv
    subst hu hv;simp only[Option.some.injEq]at h;simp only[Op.equalIn,aF,bA (JX hk▸hd.under),Option.bind_some,aH,h]
   ·cases h
  |t =>
   dsimp only at h;split at h
   ·simp only[toV,kI,Bool.false_eq_true,if_false,Option.some.injEq]at hu hv
    subst hu hv;simp only[Option.some.injEq]at h;simp only[Op.equalIn,aF,bA (za hk▸hd.under),Option.bind_some,aH,h]
   ·cases h
  |s fs =>
   dsimp only at h;simp only[toV,kI,if_true,Option.some.injEq]at hu hv;subst hu hv;obtain⟨fl,rfl,hfl⟩:=JY hk;simp only[Op.equalIn,aF,bA hd.under,Option.bind_some];have hp:aW P program=some P:=rfl;rw[hp,Option.bind_some,hs t fs hx];simp only[Bool.false_eq_true,if_false,aF];rw[<-Array.forIn_toList]
   have loop : ∀ (l : List Field) (ps : List (Nat × Nat)) (b : Bool), l.map (fun f => (f.offset, f.type, f.name == "_")) = ps.map (fun p => (p.1, p.2, false)) → ps.foldr (fun p acc => match xL T n p.2 (aK xs p.1 (bD T p.2)) (aK ys p.1 (bD T p.2)), acc with
    |some a,some b=>some (a && b)
    |_,_=>none) (some true)=some b->aW P (forIn l (none,()) λf (_:Option Bool×Unit) =>
     if f.name ≠ "_" then do
      let x <- part f.type xs.toArray f.offset
      let y <- part f.type ys.toArray f.offset
      let e <- Op.equalIn (n+m) f.type x y
      if(!e)=true then pure (ForInStep.done (some false,()))
       else pure (ForInStep.yield (none,()))
     else pure (ForInStep.yield (none,())))=some (if b then(none,())else(some false,())):=by
    intro l;induction l with
    |nil =>
     intro ps b hl hb;cases ps with
     |nil=>simp only[foldr_nil,Option.some.injEq]at hb;subst hb;rfl
     |cons=>cases hl
    |cons f l ihl =>
     intro ps b hl hb;cases ps with
     |nil=>cases hl
     |cons p ps =>
      simp only[map_cons,List.cons.injEq,Prod.mk.injEq]at hl;obtain⟨⟨e1,e2,e3⟩,hl⟩:=hl;rw[foldr_cons]at hb;split at hb
      ·rename_i a c h1 h2
       simp only[Option.some.injEq]at hb;subst hb
       have hn : f.name ≠ "_" := by simpa using e3
       rw[forIn_cons,aF,if_pos hn];rw[<-e2]at h1;obtain⟨y,hy⟩:∃y,T.get f.type=some y:=by
        cases hg:T.get f.type with
        |some y=>exact⟨y,rfl⟩
        |none=>cases n<;>(unfold xL at h1;simp_all)
       have pt:∀zs:List Value,∀zs':List Value,xL T n f.type (aK zs p.1 (bD T f.type)) zs'=some a\/xL T n f.type zs' (aK zs p.1 (bD T f.type))=some a->∃u,aW P (part f.type zs.toArray f.offset)=some u/\toV y (aK zs p.1 (bD T f.type))=some u:=by
        intro zs zs' hz;rw[QS hT hy,e1];cases hys:kI y with
        |true=>exact⟨_,by rw[if_pos rfl],by simp[toV,hys]⟩
        |false =>
         have hsz:bD T f.type=1:=by
          unfold bD zc Wi;rw[hy];cases y<;>first|rfl|cases hys
         rw[hsz]at hz |-;have:∃v,aK zs p.1 1=[v]:=by
          rcases hz with hz|hz
          ·exact(J5 hy hys hz).1
          ·exact(J5 hy hys hz).2
         obtain⟨v,hv⟩:=this;refine⟨v,?_,by simp[toV,hys,hv]⟩;simp only[Bool.false_eq_true,if_false];exact aeS hv
       obtain⟨u1,hu1,hv1⟩:=pt xs _ (.inl h1);obtain⟨u2,hu2,hv2⟩:=pt ys _ (.inr h1);simp only[aF,hu1,hu2,Option.bind_some,ih m f.type y _ _ u1 u2 a hy h1 hv1 hv2];cases a with
       |true =>
        simp only[Bool.not_true,Bool.false_eq_true,if_false,aH,Option.bind_some,Bool.true_and];exact ihl ps c hl h2
       |false=>rfl
      ·cases hb
   rw[loop fl.toList _ b hfl h];cases b<;>rfl
  |_=>cases h
end
end
