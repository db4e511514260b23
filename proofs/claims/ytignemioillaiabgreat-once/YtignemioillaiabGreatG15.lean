/- Lemmas. -/
import Derived.Test.YtignemioillaiabGreatG14
namespace Go.Proofs.YtignemioillaiabGreat
set_option maxHeartbeats 8000000
set_option maxRecDepth 100000
open List
section
open Go Go.IntWalk
section
variable{P:Program}{T:jg}{ρ:Operand->Option Value}{r:Operand->Value}
theorem aem{op:BinOp}{k l:IntKind}{t:Nat}{a c:Int}(h:Gp k l=true)(h1:op≠.shl)(h2:op≠.shr):∀x:Value,(Cc op k a c=.v x->aV P (binOp op t (.int k a) (.int l c))=some x)/\(∀p,Cc op k a c=.c p x->p->aV P (binOp op t (.int k a) (.int l c))=some x)/\(∀p y,Cc op k a c≠.d p x y):=by
 have hk:=Lu h;subst hk;intro x;have rg:∀r p,zW r k=.c p x->p->Value.int k (k.wrap r)=x:=by
  intro r p he hp;cases k<;>simp only[zW,Qr.c.injEq,reduceCtorEq]at he
  .obtain⟨rfl,rfl⟩:=he;rw[i64_in _ hp]
  .obtain⟨rfl,rfl⟩:=he;rw[u8_in _ hp]
  .obtain⟨rfl,rfl⟩:=he;rw[u16_in _ hp]
  .obtain⟨rfl,rfl⟩:=he;rw[u32_in _ hp]
  .obtain⟨rfl,rfl⟩:=he;rw[u64_in _ hp]
 have rv:∀r,zW r k≠.v x:=by intro r;cases k<;>simp[zW]
 have rd:∀r p y,zW r k≠.d p x y:=by intro r p y;cases k<;>simp[zW]
 refine⟨?_,?_,?_⟩
 .intro he
  cases op<;>simp only[Cc,Qr.v.injEq,reduceCtorEq]at he<;>first|exact absurd he (rv _)|(subst he;simp[binOp,Op.intBits,Op.intCmp,aF];done)|(exact absurd rfl h1)|(exact absurd rfl h2)
 .intro p he hp
  cases op<;>simp only[Cc,Qr.c.injEq,reduceCtorEq]at he
  .simp[binOp,Op.intArith,aF,rg _ _ he hp]
  .simp[binOp,Op.intArith,aF,rg _ _ he hp]
  .simp[binOp,Op.intArith,aF,rg _ _ he hp]
  .obtain⟨rfl,rfl⟩:=he
   simp[binOp,Op.intDiv,hp,aF]
  .obtain⟨rfl,rfl⟩:=he
   simp[binOp,Op.intDiv,hp,aF]
 .intro p y he
  cases op<;>simp only[Cc,reduceCtorEq]at he<;>exact rd _ _ _ he
theorem Tg{op:BinOp}{t:TypeId}{x y:Operand}{a b:Value}(h1:a≠.nilIface)(h2:∀c,a≠.agg c):aV P (eqGuard op t x y a b)=some ():=by
 cases a<;>first|exact absurd rfl h1|exact absurd rfl (h2 _)|(cases op<;>rfl)
theorem Dq{s:Sem Value}{x:Value}(h:aV P s=some x):aV P (do let v <- s;pure (Next.value v))=some (.value x):=by
 rw[aD,h];rfl
theorem eqO{t:TypeId}(h:P.underlying t=some .bool)(n:Nat)(a b:Bool):aV P (Op.equalIn (n+1) t (.bool a) (.bool b))=some (a==b):=by
 simp only[Op.equalIn,aD,bA h,Jdt,aF]
theorem eqP{t e:TypeId}(h:P.underlying t=some (.pointer e))(n:Nat)(a:Option Addr):aV P (Op.equalIn (n+1) t (.pointer a) (.pointer none))=some a.isNone:=by
 cases a<;>simp only[Op.equalIn,aD,bA h,Jdt,aF]<;>rfl
theorem eqL{t e:TypeId}(h:P.underlying t=some (.slice e))(n:Nat)(a:Option Addr)(l c l' c':Nat):aV P (Op.equalIn (n+1) t (.slice a l c) (.slice none l' c'))=some a.isNone:=by
 cases a<;>simp only[Op.equalIn,aD,bA h,Jdt,aF]<;>rfl
theorem aen(hT:pR P T){op:BinOp}{t:Nat}{x y:Operand}{yt:TypeId}{dst:Option Tmp}{ty:TypeId}{pos:String}{after:Array Edge}{guard:Option (Nat×Bool)}(hr:∀x v,ρ x=some v->r x=v):(EP T op t (ρ x) (ρ y)).ok P (execOp r ⟨dst,.binOp op t x y yt,ty,pos,after,guard⟩):=by
 have base:execOp r ⟨dst,.binOp op t x y yt,ty,pos,after,guard⟩=(do let v <- (do eqGuard op t x y (r x) (r y);binOp op t (r x) (r y));pure (Next.value v)):=rfl;rw[base];have go:∀{a b v:Value},r x=a->r y=b->a≠.nilIface->(∀c,a≠.agg c)->aV P (binOp op t a b)=some v->aV P (do let v <- (do eqGuard op t x y (r x) (r y);binOp op t (r x) (r y));pure (Next.value v))=some (.value v):=by
  intro a b v ha hb h1 h2 h3;rw[ha,hb];refine Dq ?_;rw[aD,Tg h1 h2];exact h3
 have eq1:∀{a b:Value} {v:Bool},aV P (Op.equal t a b)=some v->aV P (do pure (Value.bool (<-Op.equal t a b)))=some (.bool v):=λh=>by rw[aD,h];rfl
 have Gq:∀{a b:Value} {v:Bool},aV P (Op.equal t a b)=some v->aV P (do pure (Value.bool (!(<-Op.equal t a b))))=some (.bool (!v)):=λh=>by rw[aD,h];rfl
 cases hx:ρ x with
 |none=>unfold EP;trivial
 |some a =>
  cases hy:ρ y with
  |none=>cases a<;>(unfold EP;trivial)
  |some b =>
   have ha:=hr _ _ hx;have hb:=hr _ _ hy;unfold EP;split
   .rename_i k a k' c e1 e2
    cases e1;cases e2
    split
    .exact λhp=>go ha hb nofun nofun (by simp[binOp,Op.shift,Int.not_lt.2 hp,aF])
    .exact λhp=>go ha hb nofun nofun (by simp[binOp,Op.shift,Int.not_lt.2 hp,aF])
    .rename_i h1 h2
     cases hk:Gp k k' with
     |false=>trivial
     |true =>
      dsimp only[cond_true];have q:=λz=>aem (P:=P) (t:=t) (a:=a) (c:=c) hk h1 h2 z
      cases hq:Cc op k a c with
      |v z=>exact go ha hb nofun nofun ((q z).1 hq)
      |c p z=>exact λhp=>go ha hb nofun nofun ((q z).2.1 p hq hp)
      |d p z y=>exact absurd hq ((q z).2.2 p y)
      |no=>trivial
   .rename_i a c e1 e2
    cases e1;cases e2
    split
    .rename_i ht
     obtain⟨i,d,hd⟩:=hT.is ht;exact go ha hb nofun nofun (eq1 (eqO (Lr hd.kind▸hd.under) 9999 a c))
    .rename_i ht
     obtain⟨i,d,hd⟩:=hT.is ht;exact go ha hb nofun nofun (Gq (eqO (Lr hd.kind▸hd.under) 9999 a c))
    .trivial
   .rename_i a c e1 e2
    cases e1;cases e2
    split
    .exact go ha hb nofun nofun (by simp[binOp,Op.stringOp,aF])
    .exact go ha hb nofun nofun (by simp[binOp,Op.stringOp,aF])
    .trivial
   .rename_i a e1 e2
    cases e1;cases e2
    split
    .rename_i ht
     obtain⟨i,d,hd⟩:=hT.is ht;obtain⟨e,rfl⟩:=QH hd.kind;exact go ha hb nofun nofun (eq1 (eqP hd.under 9999 a))
    .rename_i ht
     obtain⟨i,d,hd⟩:=hT.is ht;obtain⟨e,rfl⟩:=QH hd.kind;exact go ha hb nofun nofun (Gq (eqP hd.under 9999 a))
    .trivial
   .rename_i a _ _ _ _ e1 e2
    cases e1;cases e2
    split
    .rename_i ht
     obtain⟨i,d,hd⟩:=hT.is ht;exact go ha hb nofun nofun (eq1 (eqL (oD hd.kind▸hd.under) 9999 a _ _ _ _))
    .rename_i ht
     obtain⟨i,d,hd⟩:=hT.is ht;exact go ha hb nofun nofun (Gq (eqL (oD hd.kind▸hd.under) 9999 a _ _ _ _))
    .trivial
   .trivial
end
theorem ER(b o n:Nat):(⟨b,o,none⟩:Addr).add n=⟨b,o+n,none⟩:=by
 unfold Addr.add;split
 .subst_vars;rfl
 .rfl
theorem Oe(cs:Array Value)(d n:Nat):cs.extract d (d+n)=(aG cs.toList d n).toArray:=by
 apply Jdv
 simp[aG,Array.toList_extract,extract_eq_take_drop]
theorem QJ{α β:Type}(P:Program)(f:α->β)(s:Sem α):aV P (f <$> s)=(aV P s).map f:=by
 have h:=aD P s λa=>(pure (f a):Sem β)
 rw[Option.map_eq_bind];exact h
section
variable{P:Program}{T:jg}{ρ:Operand->Option Value}{r:Operand->Value}
theorem Gs (hT : pR P T) {s : Nat} {fs : List Nat} (hs : T.get s = some (.s fs)) : ∃ fl : Array Field, P.underlying s = some (.struct fl) ∧ ∀ (f d u : Nat), (rQ T fs 0)[f]? = some (d, u) → ∃ x : Field, fl[f]? = some x ∧ x.offset = d ∧ x.type = u ∧ (x.name == "_") = false := by
 obtain⟨i,d,hd⟩:=hT.is hs;obtain⟨fl,rfl,hfl⟩:=Lt hd.kind;refine⟨fl,hd.under,λf d u hf=>?_⟩
 have h1 : (fl.toList.map fun f => (f.offset, f.type, f.name == "_"))[f]? = some (d, u, false) := by
  rw[hfl,Jdd,hf];rfl
 rw[Jdd,Jdw]at h1;cases hx:fl[f]? with
 |none=>rw[hx]at h1;cases h1
 |some x =>
  rw[hx]at h1;simp only[Jbb,Jbc,Jcw]at h1;exact⟨x,rfl,h1.1,h1.2.1,h1.2.2⟩
theorem Og(hT:pR P T){s f:Nat}{fs:List Nat}{b o d u:Nat}{z:Ty}(hs:T.get s=some (.s fs))(hf:(rQ T fs 0)[f]?=some (d,u))(hu:T.get u=some z)(h0:¬bD T u=0):aV P (Instr.fieldAt s (.pointer (some ⟨b,o,none⟩)) f)=some (.pointer (some ⟨b,o+d,none⟩)):=by
 obtain⟨fl,h1,h2⟩:=Gs hT hs;obtain⟨x,hx,rfl,rfl,_⟩:=h2 f d u hf;obtain⟨i,dd,hd⟩:=hT.is hu;unfold Instr.fieldAt;simp only[aD,bA h1,Jdt,hx,Instr.sureAddr,aF,fieldPlace,gu hd.info,hd.size,h0,Jba,ER]
theorem Ti(hT:pR P T){u:Nat}{z:Ty}{cs:Array Value}{d:Nat}(hu:T.get u=some z):aV P (part u cs d)=if kQ z then some (.agg (aG cs.toList d (bD T u)).toArray)else cs.toList[d]?:=by
 obtain⟨i,dd,hd⟩:=hT.is hu;unfold part;rw[aD,QI hT hu];cases hz:kQ z with
 |true=>simp only[Jdt,Jb8,aD,gu hd.info,hd.size,aF,Oe]
 |false =>
  simp only[Jdt,Jb9,Jba];rw[Jdw];cases cs[d]? <;> rfl
theorem OC(hT:pR P T){s f:Nat}{fs:List Nat}{cs:Array Value}{d u:Nat}{z:Ty}(hs:T.get s=some (.s fs))(hf:(rQ T fs 0)[f]?=some (d,u))(hu:T.get u=some z):aV P (Instr.field s (.agg cs) f)=if kQ z then some (.agg (aG cs.toList d (bD T u)).toArray)else cs.toList[d]?:=by
 obtain⟨fl,h1,h2⟩:=Gs hT hs;obtain⟨x,hx,rfl,rfl,_⟩:=h2 f d u hf;unfold Instr.field;simp only[aD,bA h1,Jdt,hx,asAgg,aF,Ti hT hu]
theorem Zt(hT:pR P T){t e:Nat}{z:Ty}{b o n c:Nat}{k:IntKind}{j:Int}(ht:T.get t=some (.l e))(he:T.get e=some z)(hj:0<=j/\j<n):aV P (Instr.indexAt t (.slice (some ⟨b,o,none⟩) n c) (.int k j))=some (.pointer (some ⟨b,o+j.toNat*bD T e,none⟩)):=by
 obtain⟨i,d,hd⟩:=hT.is ht;obtain⟨i',d',hd'⟩:=hT.is he;have hu:P.underlying t=some (.slice e):=oD hd.kind▸hd.under;unfold Instr.indexAt;simp only[aD,asIntOf,aF,Jdt,bA hu,hj,and_self,Jb8,gu hd'.info,hd'.size,ER]
theorem V9(hT:pR P T){t e:Nat}{z:Ty}{b o n:Nat}{k:IntKind}{j:Int}(ht:T.get t=some (.a n e))(he:T.get e=some z)(hj:0<=j/\j<n):aV P (Instr.indexAt t (.pointer (some ⟨b,o,none⟩)) (.int k j))=some (.pointer (some ⟨b,o+j.toNat*bD T e,none⟩)):=by
 obtain⟨i,d,hd⟩:=hT.is ht;obtain⟨i',d',hd'⟩:=hT.is he;have hu:P.underlying t=some (.array n e):=V8 hd.kind▸hd.under;unfold Instr.indexAt;simp only[aD,asIntOf,aF,Jdt,bA hu,Instr.sureAddr,hj,and_self,Jb8,gu hd'.info,hd'.size,ER]
theorem Wd(hT:pR P T){t:Nat}{s:ByteArray}{k:IntKind}{j:Int}(ht:T.get t=some .t)(hj:0<=j/\j<s.size):aV P (Instr.index t (.string s) (.int k j))=some (.int .u8 (s.data.toList.getD j.toNat 0).toNat):=by
 obtain⟨i,d,hd⟩:=hT.is ht;have hu:P.underlying t=some .string:=zV hd.kind▸hd.under;have hl:j.toNat<s.size:=by omega
 have h1:s[j.toNat]?=some (s.data.toList.getD j.toNat 0):=by
  have h2:j.toNat<s.data.toList.length:=by simpa using hl
  rw[Jdx,Jcc h2];simp only[Jd1];rw[getElem?_pos s j.toNat hl];congr 1
 unfold Instr.index;simp only[aD,asIntOf,aF,Jdt,bA hu,hj.1,Jb8,h1]
theorem Dr{l:List Operand}{vs:List Value}(hr:∀x v,ρ x=some v->r x=v)(h:Jr ρ l=some vs):l.map r=vs:=by
 induction l generalizing vs with
 |nil=>simp only[Jr,Jbc]at h;subst h;rfl
 |cons x xs ih =>
  simp only[Jr]at h;split at h
  .rename_i v vs' h1 h2
   simp only[Jbc]at h;subst h;simp[hr _ _ h1,ih h2]
  .cases h
theorem OD{l:List (Nat×Operand)}{vs:List (Nat×Value)}(hr:∀x v,ρ x=some v->r x=v)(h:Lx ρ l=some vs):l.map (λp=>(p.1,r p.2))=vs:=by
 induction l generalizing vs with
 |nil=>simp only[Lx,Jbc]at h;subst h;rfl
 |cons x xs ih =>
  obtain⟨i,x⟩:=x;simp only[Lx]at h;split at h
  .rename_i v vs' h1 h2
   simp only[Jbc]at h;subst h;simp[hr _ _ h1,ih h2]
  .cases h
theorem We(vs:List Value)(cs:Array Value)(off j:Nat)(h:off+j+vs.length<=cs.size):((vs.zipIdx j).foldl (λcs (p:Value×Nat)=>cs.setIfInBounds (off+p.2) p.1) cs).toList=cs.toList.take (off+j)++vs++cs.toList.drop (off+j+vs.length):=by
 induction vs generalizing cs j with
 |nil=>simp
 |cons v vs ih =>
  simp only[zipIdx_cons,Jbg,length_cons]at h |-;rw[ih _ _ (by simp;omega)];simp only[Array.toList_setIfInBounds];have hl:off+j<cs.toList.length:=by simp;omega
  rw[Jck,Jb6 hl];have e1:(cs.toList.take (off+j)).length=off+j:=by rw[Jd6];omega
  have e2:off+(j+1)=off+j+1:=by omega
  rw[e2,take_append,Jd2 (by rw[e1];omega),e1,show off+j+1-(off+j)=1 by omega,take_succ_cons,take_zero];rw[drop_append,drop_of_length_le (by rw[e1];omega),e1,show off+j+1+vs.length-(off+j)=vs.length+1 by omega,drop_succ_cons,drop_drop];rw[show off+j+1+vs.length=off+j+(vs.length+1)by omega];simp
theorem Tj{pl:List (Nat×Nat)}{place:Nat->Option (Nat×Nat)}(hp:∀i,place i=pl[i]?){cs:List Value}{vs:List (Nat×Value)}{out:List Value}(h:xI pl cs vs=some out):Instr.fill place cs.toArray vs=some out.toArray:=by
 induction vs generalizing cs with
 |nil=>simp only[xI,Jbc]at h;subst h;rfl
 |cons p rest ih =>
  obtain⟨i,v⟩:=p;unfold xI at h;unfold Instr.fill;rw[hp];cases hi:pl[i]? with
  |none=>rw[hi]at h;cases h
  |some q =>
   obtain⟨off,n⟩:=q;rw[hi]at h;dsimp only at h |-;cases hb:(Nat.beq v.cells.toList.length n&&Nat.ble (off+n) cs.length)with
   |false=>rw[hb]at h;cases h
   |true =>
    rw[hb]at h;simp only[Jdy]at hb;have h1:=Jdq hb.1;have h2:=Jc4 hb.2;subst h1;rw[Array.length_toList]at h2 h;have hc:(decide (v.cells.size≠v.cells.toList.length)||decide (off+v.cells.size>cs.toArray.size))=false:=by
     simp;omega
    rw[Jb5 (by rw[hc];decide)];have e:(v.cells.zipIdx.foldl (λcs (p:Value×Nat)=>cs.setIfInBounds (off+p.2) p.1) cs.toArray)=(cs.take off++v.cells.toList++cs.drop (off+v.cells.size)).toArray:=by
     apply Jdv
     have e2:v.cells.zipIdx=v.cells.toList.zipIdx.toArray:=by apply Jdv;simp
     rw[e2];have:=We v.cells.toList cs.toArray off 0 (by simp;omega);simpa using this
    exact(congrArg (λz=>Instr.fill place z rest) e).trans (ih h)
theorem Zu(hT:pR P T){t:Nat}{fs:List Nat}(ht:T.get t=some (.s fs)){vs:List (Nat×Value)}{cs:List Value}(hf:xI ((rQ T fs 0).map λp=>(p.1,bD T p.2)) (zc T t) vs=some cs)(ha:fs.all (λu=>(T.get u).isSome)=true):aV P (Instr.build t vs.toArray)=some (.agg cs.toArray):=by
 obtain⟨i,d,hd⟩:=hT.is ht;obtain⟨fl,rfl,hfl⟩:=Lt hd.kind;have hz:aV P (zeroValue t)=some (.agg (zc T t).toArray):=by
  rw[uo hd.info hd.zero];unfold zv kQ;rfl
 have hm:∀l:List Field,(∀x∈l,(T.get x.type).isSome=true)->aV P (l.mapM λf=>do pure (f.offset,<-sizeOf f.type))=some (l.map λf=>(f.offset,bD T f.type)):=by
  intro l hl;induction l with
  |nil=>rfl
  |cons x xs ih =>
   obtain⟨z,hz⟩:=Jcp.1 (hl x Jb4);obtain⟨i',d',hd'⟩:=hT.is hz;rw[mapM_cons,aD,aD,gu hd'.info,hd'.size];simp only[Jdt,aF,aD];rw[ih λy hy=>hl y (Jb2 _ hy)];rfl
 have hal:∀x∈fl.toList,(T.get x.type).isSome=true:=by
  have h1:∀(l:List Nat) (o:Nat),(rQ T l o).map Prod.snd=l:=by
   intro l;induction l with
   |nil=>intro;rfl
   |cons y ys ih=>intro o;simp[rQ,ih]
  intro x hx;have h2:x.type∈fs:=by
   have h3 : (fl.toList.map fun f => (f.offset, f.type, f.name == "_")).map (fun p => p.2.1) = fs := by
    rw[hfl,map_map];exact(h1 fs 0)
   rw[<-h3,map_map];exact Jdb.2 ⟨x,hx,rfl⟩
  exact all_eq_true.1 ha _ h2
 have hpl:(fl.toList.map λf=>(f.offset,bD T f.type))=(rQ T fs 0).map λp=>(p.1,bD T p.2):=by
  have : (fl.toList.map fun f => (f.offset, f.type, f.name == "_")).map (fun p => (p.1, bD T p.2.1)) = (rQ T fs 0).map fun p => (p.1, bD T p.2) := by
   rw[hfl,map_map];rfl
  rw[<-this,map_map];rfl
 unfold Instr.build;rw[aD,hz];simp only[Jdt,aD,bA hd.under];rw[show(fl.mapM λf=>do pure (f.offset,<-sizeOf f.type):Sem (Array (Nat×Nat)))=toArray <$> (fl.toList.mapM λf=>do pure (f.offset,<-sizeOf f.type))from(Jb7 ..)];rw[QJ,hm _ hal];simp only[Jbb,Jdt];have hff:=Tj (pl:=fl.toList.map λf=>(f.offset,bD T f.type)) (place:=λi=>((fl.toList.map λf=>(f.offset,bD T f.type)).toArray)[i]?) (λi=>by simp) (hpl▸hf);have e:Value.cells (.agg (zc T t).toArray)=(zc T t).toArray:=rfl;rw[e,hff];rfl
end
noncomputable def yz(T:jg):Nat->Nat->List Value->List Value->Option Bool
 |0,_,_,_=>none
 |n+1,t,xs,ys=>match T.get t with
  |some (.i k)=>match xs,ys with
   | [.int k1 a],[.int k2 b]=>bif Gp k1 k&&Gp k2 k then some (a==b)else none
   |_,_=>none
  |some .o=>match xs,ys with
   | [.bool a],[.bool b]=>some (a==b)
   |_,_=>none
  |some .t=>match xs,ys with
   | [.string a],[.string b]=>some (a==b)
   |_,_=>none
  |some (.s fs)=>(rQ T fs 0).foldr (λp acc=>match yz T n p.2 (aG xs p.1 (bD T p.2)) (aG ys p.1 (bD T p.2)),acc with
   |some a,some b=>some (a&&b)
   |_,_=>none) (some true)
  |_=>none
def toV(x:Ty)(l:List Value):Option Value:=if kQ x then some (.agg l.toArray)else match l with
 | [v]=>some v
 |_=>none
section
variable{P:Program}{T:jg}
theorem agS{l:List Value}{d:Nat}{v:Value}(h:aG l d 1=[v]):l[d]?=some v:=by
 have:(aG l d 1)[0]?=some v:=by rw[h];rfl
 unfold aG at this;rw[Jc5,Jb6 (by decide),Jcf]at this;simpa using this
theorem LA{n t:Nat}{y:Ty}{xs ys:List Value}{a:Bool}(hy:T.get t=some y)(hs:kQ y=false)(h:yz T n t xs ys=some a):(∃v,xs=[v])/\∃v,ys=[v]:=by
 cases n with
 |zero=>cases h
 |succ n =>
  unfold yz at h;rw[hy]at h;cases y with
  |s=>cases hs
  |i=>dsimp only at h;split at h;exact⟨⟨_,rfl⟩,⟨_,rfl⟩⟩;cases h
  |o=>dsimp only at h;split at h;exact⟨⟨_,rfl⟩,⟨_,rfl⟩⟩;cases h
  |t=>dsimp only at h;split at h;exact⟨⟨_,rfl⟩,⟨_,rfl⟩⟩;cases h
  |_=>cases h
theorem Tk(hT:pR P T)(hs:∀t fs,T.get t=some (.s fs)->P.stoodInHeld t=false):∀(n m t:Nat) (x:Ty) (xs ys:List Value) (u v:Value) (b:Bool),T.get t=some x->yz T n t xs ys=some b->toV x xs=some u->toV x ys=some v->aV P (Op.equalIn (n+m) t u v)=some b:=by
 intro n;induction n with
 |zero=>intro m t x xs ys u v b _ h;cases h
 |succ n ih =>
  intro m t x xs ys u v b hx h hu hv;obtain⟨i,d,hd⟩:=hT.is hx;rw[show n+1+m=(n+m)+1 by omega];unfold yz at h;rw[hx]at h;have hk:=hd.kind;cases x with
  |i k =>
   dsimp only at h;split at h
   .rename_i k1 a k2 c
    cases hb:(Gp k1 k&&Gp k2 k)with
    |false=>rw[hb]at h;cases h
    |true =>
     rw[hb]at h;simp only[Jdy]at hb;have e1:=Lu hb.1;have e2:=Lu hb.2;subst e1 e2;simp only[toV,kQ,Jb9,Jba,Jbc]at hu hv;subst hu hv;simp only[cond_true,Jbc]at h;simp only[Op.equalIn,aD,bA (Cb hk▸hd.under),Jdt,Jb8,aF,h]
   .cases h
  |o =>
   dsimp only at h;split at h
   .simp only[toV,kQ,Jb9,Jba,Jbc]at hu hv
    subst hu hv;simp only[Jbc]at h;simp only[Op.equalIn,aD,bA (Lr hk▸hd.under),Jdt,aF,h]
   .cases h
  |t =>
   dsimp only at h;split at h
   .simp only[toV,kQ,Jb9,Jba,Jbc]at hu hv
    subst hu hv;simp only[Jbc]at h;simp only[Op.equalIn,aD,bA (zV hk▸hd.under),Jdt,aF,h]
   .cases h
  |s fs =>
   dsimp only at h;simp only[toV,kQ,Jb8,Jbc]at hu hv;subst hu hv;obtain⟨fl,rfl,hfl⟩:=Lt hk;simp only[Op.equalIn,aD,bA hd.under,Jdt];have hp:aV P program=some P:=rfl;rw[hp,Jdt,hs t fs hx];simp only[Jb9,Jba,aD];rw[<-Array.forIn_toList]
   have loop : ∀ (l : List Field) (ps : List (Nat × Nat)) (b : Bool), l.map (fun f => (f.offset, f.type, f.name == "_")) = ps.map (fun p => (p.1, p.2, false)) → ps.foldr (fun p acc => match yz T n p.2 (aG xs p.1 (bD T p.2)) (aG ys p.1 (bD T p.2)), acc with
    |some a,some b=>some (a&&b)
    |_,_=>none) (some true)=some b->aV P (forIn l (none,()) λf (_:Option Bool×Unit) =>
     if f.name ≠ "_" then do
      let x <- part f.type xs.toArray f.offset
      let y <- part f.type ys.toArray f.offset
      let e <- Op.equalIn (n+m) f.type x y
      if(!e)=true then pure (ForInStep.done (some false,()))
       else pure (ForInStep.yield (none,()))
     else pure (ForInStep.yield (none,())))=some (if b then(none,())else(some false,())):=by
    intro l;induction l with
    |nil =>
     intro ps b hl hb;cases ps with
     |nil=>simp only[foldr_nil,Jbc]at hb;subst hb;rfl
     |cons=>cases hl
    |cons f l ihl =>
     intro ps b hl hb;cases ps with
     |nil=>cases hl
     |cons p ps =>
      simp only[Jcj,Jd8,Jcw]at hl;obtain⟨⟨e1,e2,e3⟩,hl⟩:=hl;rw[foldr_cons]at hb;split at hb
      .rename_i a c h1 h2
       simp only[Jbc]at hb;subst hb
       have hn : f.name ≠ "_" := by simpa using e3
       rw[forIn_cons,aD,Jb6 hn];rw[<-e2]at h1;obtain⟨y,hy⟩:∃y,T.get f.type=some y:=by
        cases hg:T.get f.type with
        |some y=>exact⟨y,rfl⟩
        |none=>cases n<;>(unfold yz at h1;simp_all)
       have pt:∀zs:List Value,∀zs':List Value,yz T n f.type (aG zs p.1 (bD T f.type)) zs'=some a\/yz T n f.type zs' (aG zs p.1 (bD T f.type))=some a->∃u,aV P (part f.type zs.toArray f.offset)=some u/\toV y (aG zs p.1 (bD T f.type))=some u:=by
        intro zs zs' hz;rw[Ti hT hy,e1];cases hys:kQ y with
        |true=>exact⟨_,by rw[Jb6 rfl],by simp[toV,hys]⟩
        |false =>
         have hsz:bD T f.type=1:=by
          unfold bD zc Tf;rw[hy];cases y<;>first|rfl|cases hys
         rw[hsz]at hz |-;have:∃v,aG zs p.1 1=[v]:=by
          rcases hz with hz|hz
          .exact(LA hy hys hz).1
          .exact(LA hy hys hz).2
         obtain⟨v,hv⟩:=this;refine⟨v,?_,by simp[toV,hys,hv]⟩;simp only[Jb9,Jba];exact agS hv
       obtain⟨u1,hu1,hv1⟩:=pt xs _ (.inl h1);obtain⟨u2,hu2,hv2⟩:=pt ys _ (.inr h1);simp only[aD,hu1,hu2,Jdt,ih m f.type y _ _ u1 u2 a hy h1 hv1 hv2];cases a with
       |true =>
        simp only[Bool.not_true,Jb9,Jba,aF,Jdt,Jdz];exact ihl ps c hl h2
       |false=>rfl
      .cases hb
   rw[loop fl.toList _ b hfl h];cases b<;>rfl
  |_=>cases h
end
structure OE(P:Program)(T:jg):Prop where
 ok:pR P T
 eq:(T.all λp=>!kQ p.2||(!P.stoodInHeld p.1 && !P.eqGuardType P.depth p.1))=true
noncomputable def QK(T:jg)(op:BinOp)(t:Nat)(xs ys:Array Value):Qr:=match T.get t,yz T 5 t xs.toList ys.toList,op with
 |some (.s _),some b,.eql=>.v (.bool b)
 |some (.s _),some b,.neq=>.v (.bool (!b))
 |_,_,_=>.no
noncomputable def iT(T:jg)(ρ:Operand->Option Value):Op->Qr
 |.binOp op t x y _=>match ρ x,ρ y with
  |some (.agg xs),some (.agg ys)=>QK T op t xs ys
  |u,v=>EP T op t u v
 |op=>uK T ρ op
section
variable{P:Program}{T:jg}{ρ:Operand->Option Value}{r:Operand->Value}
theorem OE.eqs(h:OE P T){t:Nat}{fs:List Nat}(ht:T.get t=some (.s fs)):P.stoodInHeld t=false/\P.eqGuardType P.depth t=false:=by
 have:=all_eq_true.1 h.eq _ (jg.mem ht);simpa[kQ]using this
theorem Js{t:Nat}(h:P.eqGuardType P.depth t=false){op:BinOp}{x y:Operand}{xs ys:Array Value}:aV P (eqGuard op t x y (.agg xs) (.agg ys))=some ():=by
 have e:aV P (do
  if !(<-program).eqGuardType (<-program).depth t then return
  if ← Op.eqGuardIn Op.maxDepth t (.agg xs) (.agg ys) then unsupported (.noEntry "binop/eql: two nil values of an interface type with methods, in a part of a struct or an array")) = some () := by
  have hp:aV P program=some P:=rfl;rw[aD,hp,Jdt,aD,hp,Jdt,h];rfl
 cases op<;>first|rfl|exact e
theorem aeo(hT:OE P T){op:BinOp}{t:Nat}{x y:Operand}{yt:TypeId}{dst:Option Tmp}{ty:TypeId}{pos:String}{after:Array Edge}{guard:Option (Nat×Bool)}{xs ys:Array Value}(hx:r x=.agg xs)(hy:r y=.agg ys):(QK T op t xs ys).ok P (execOp r ⟨dst,.binOp op t x y yt,ty,pos,after,guard⟩):=by
 have base:execOp r ⟨dst,.binOp op t x y yt,ty,pos,after,guard⟩=(do let v <- (do eqGuard op t x y (r x) (r y);binOp op t (r x) (r y));pure (Next.value v)):=rfl;rw[base,hx,hy];unfold QK;split
 .rename_i fs b h1 h2
  have he:=Tk hT.ok (λt fs h=>(hT.eqs h).1) 5 9995 t _ _ _ (.agg xs) (.agg ys) b h1 h2 (by simp[toV,kQ]) (by simp[toV,kQ]);refine Dq ?_;rw[aD,Js (hT.eqs h1).2,Jdt];show aV P (do pure (Value.bool (<-Op.equalIn (5+9995) t (.agg xs) (.agg ys))))=_;rw[aD,he];rfl
 .rename_i fs b h1 h2
  have he:=Tk hT.ok (λt fs h=>(hT.eqs h).1) 5 9995 t _ _ _ (.agg xs) (.agg ys) b h1 h2 (by simp[toV,kQ]) (by simp[toV,kQ]);refine Dq ?_;rw[aD,Js (hT.eqs h1).2,Jdt];show aV P (do pure (Value.bool (!(<-Op.equalIn (5+9995) t (.agg xs) (.agg ys)))))=_;rw[aD,he];rfl
 .trivial
theorem abj(hT:pR P T){s d:Nat}{k l m:IntKind}{n:Int}(hs:T.get s=some (.i k))(hd:T.get d=some (.i l)):aV P (convert s d (.int m n))=some (.int l (l.wrap n)):=by
 obtain⟨_,_,h1⟩:=hT.is hs;obtain⟨_,_,h2⟩:=hT.is hd;unfold convert;simp only[aD,bA (Cb h1.kind▸h1.under),bA (Cb h2.kind▸h2.under),Jdt,Conv.intToInt,aF]
theorem Zv(hT:pR P T){s d:Nat}{u:ByteArray}(hs:T.get s=some .t)(hd:T.get d=some .t):aV P (convert s d (.string u))=some (.string u):=by
 obtain⟨_,_,h1⟩:=hT.is hs;obtain⟨_,_,h2⟩:=hT.is hd;unfold convert;simp only[aD,bA (zV h1.kind▸h1.under),bA (zV h2.kind▸h2.under),Jdt,aF]
theorem yA{k:IntKind}{i:Int}{y:Nat}{c:BoundsCode}(h:0<=i/\i<=y):aV P (Instr.sliceBound (.int k i) y c)=some i.toNat:=by
 unfold Instr.sliceBound;simp only[aD,asIntOf,aF,Jdt,h,and_self,Jb8]
theorem QL(hT:OE P T)(hr:∀x v,ρ x=some v->r x=v)(o:Oper):(iT T ρ o.op).ok P (execOp r o):=by
 obtain⟨dst,op,ty,pos,after,guard⟩:=o;have V:∀{s:Sem Value} {x:Value},aV P s=some x->aV P (do let v <- s;pure (Next.value v))=some (.value x):=Dq;cases op with
 |binOp op t x y yt =>
  show(match ρ x,ρ y with
   |some (.agg xs),some (.agg ys)=>QK T op t xs ys
   |u,v=>EP T op t u v).ok P _
  split
  .rename_i xs ys h1 h2
   exact aeo hT (hr _ _ h1) (hr _ _ h2)
  .exact aen hT.ok hr
 |move x =>
  simp only[iT,uK];split
  .rename_i v h;simp only[Qr.ok,execOp,hr _ _ h,aF]
  .trivial
 |assign x =>
  simp only[iT,uK];split
  .rename_i v h;simp only[Qr.ok,execOp,hr _ _ h,aF]
  .trivial
 |pick c a b =>
  simp only[iT,uK];split
  .rename_i t u v h1 h2 h3
   simp only[Qr.ok,execOp,hr _ _ h1,hr _ _ h2,hr _ _ h3,asBool,aD,aF,Jdt];cases t<;>rfl
  .trivial
 |fieldAddr s x f =>
  simp only[iT,uK];split
  .rename_i b o fs h1 h2
   split
   .rename_i d u h3
    split
    .rename_i z h4
     cases h0:Nat.beq (bD T u) 0 with
     |true=>trivial
     |false =>
      simp only[Qr.ok,execOp,hr _ _ h1,cond_false];exact V (Og hT.ok h2 h3 h4 λe=>by rw[e]at h0;cases h0)
    .trivial
   .trivial
  .trivial
 |field s x f =>
  simp only[iT,uK];split
  .rename_i cs fs h1 h2
   split
   .rename_i d u h3
    split
    .rename_i gs h4
     simp only[Qr.ok,execOp,hr _ _ h1];exact V (by rw[OC hT.ok h2 h3 h4];rfl)
    .trivial
    .rename_i z h4 h5' h5
     split
     .rename_i v h6
      simp only[Qr.ok,execOp,hr _ _ h1];refine V ?_;rw[OC hT.ok h2 h3 h5,Jb5,h6];cases z<;>simp_all [kQ]
     .trivial
    .trivial
   .trivial
  .trivial
 |indexAddr t x i =>
  simp only[iT,uK];split
  .rename_i b o n c k j e h1 h2 h3
   split
   .rename_i z h4
    intro hp;simp only[execOp,hr _ _ h1,hr _ _ h2];exact V (Zt hT.ok h3 h4 hp)
   .trivial
  .rename_i b o k j n e h1 h2 h3
   split
   .rename_i z h4
    intro hp;simp only[execOp,hr _ _ h1,hr _ _ h2];exact V (V9 hT.ok h3 h4 hp)
   .trivial
  .trivial
 |index t x i =>
  simp only[iT,uK];split
  .rename_i s k j h1 h2 h3
   intro hp;simp only[execOp,hr _ _ h1,hr _ _ h2];exact V (Wd hT.ok h3 hp)
  .trivial
 |unOp op t x =>
  simp only[iT,uK];split
  .rename_i b h1
   simp only[Qr.ok,execOp,hr _ _ h1,Op.unary];rfl
  .rename_i n h1
   intro hp;simp only[execOp,hr _ _ h1,Op.unary,Op.intArith];show some (Next.value (.int .i64 (IntKind.i64.wrap (0-n))))=_;rw[Go.IntWalk.i64_in _ hp]
  .trivial
 |convert s d x =>
  simp only[iT,uK];split
  .rename_i m n k l h1 h2 h3
   have e:=abj hT.ok (m:=m) (n:=n) h2 h3;have e':aV P (execOp r ⟨dst,.convert s d x,ty,pos,after,guard⟩)=some (.value (.int l (l.wrap n))):=by
    simp only[execOp,hr _ _ h1];exact V e
   cases l<;>first
    |trivial
    |exact⟨e',λhp=>by rw[u8_in _ hp]⟩
    |exact⟨e',λhp=>by rw[u32_in _ hp]⟩
    |exact⟨e',λhp=>by rw[u64_in _ hp]⟩
    |exact⟨e',λhp=>by rw[i64_in _ hp]⟩
  .rename_i u h1 h2 h3
   simp only[Qr.ok,execOp,hr _ _ h1];exact V (Zv hT.ok h2 h3)
  .trivial
 |extract x i =>
  simp only[iT,uK];split
  .rename_i vs h1
   split
   .rename_i v h2
    simp only[Qr.ok,execOp,hr _ _ h1,Instr.extract];rw[Jdw]at h2;rw[h2];rfl
   .trivial
  .trivial
 |build t ps =>
  simp only[iT,uK];split
  .rename_i fs vs h1 h2
   split
   .rename_i cs h3
    cases h4:fs.all (λu=>(T.get u).isSome)with
    |false=>trivial
    |true =>
     simp only[Qr.ok,execOp,cond_true];have e:(ps.map λ(p:Nat×Operand)=>(p.1,r p.2))=vs.toArray:=by
      apply Jdv
      rw[Jf0];exact OD hr h2
     exact V (by rw[show(ps.map λx=>match x with|(i,x)=>(i,r x))=(ps.map λ(p:Nat×Operand)=>(p.1,r p.2))from rfl,e];exact Zu hT.ok h1 h3 h4)
   .trivial
  .trivial
 |makeFunc fn a b =>
  simp only[iT,uK];split
  .rename_i u v h1 h2
   simp only[Qr.ok,execOp,Instr.makeFunc];have e1:a.map r=u.toArray:=by apply Jdv;rw[Jf0];exact Dr hr h1
   have e2:b.map r=v.toArray:=by apply Jdv;rw[Jf0];exact Dr hr h2
   rw[e1,e2];rfl
  .trivial
 |nilCheck x =>
  simp only[iT,uK];split
  .rename_i a h1
   simp only[Qr.ok,execOp,hr _ _ h1,aF]
  .rename_i f u v h1
   simp only[Qr.ok,execOp,hr _ _ h1,aF]
  .trivial
 |slice t x lo hi mx =>
  cases mx with
  |some m =>
   cases lo with
   |none=>trivial
   |some lo =>
    cases hi with
    |none=>trivial
    |some hi =>
     simp only[iT,uK];split
     .rename_i a n cap e h1 h2
      obtain⟨_,_,h3⟩:=hT.ok.is h2;have hu:P.underlying t=some (.slice e):=oD h3.kind▸h3.under;split
      .rename_i z hz
       obtain⟨_,_,h3'⟩:=hT.ok.is hz;split
       .rename_i k1 l k2 h k3 mm h4 h5 h6
        intro hp;simp only[execOp,hr _ _ h1,Jbb,hr _ _ h4,hr _ _ h5,hr _ _ h6];refine V ?_;simp only[Instr.sliceAt,aD,bA hu,Jdt,Instr.slice,Instr.sliceBounds,aF];rw[yA ⟨by omega,by omega⟩,Jdt,yA ⟨by omega,by omega⟩,Jdt,yA ⟨by omega,by omega⟩];simp only[Jdt,gu h3'.info,h3'.size]
       .trivial
      .trivial
     .trivial
  |none =>
   simp only[iT,uK];split
   .rename_i s h1 h2
    obtain⟨_,_,h3⟩:=hT.ok.is h2;have hu:P.underlying t=some .string:=zV h3.kind▸h3.under;split
    .rename_i k1 a k2 b h4 h5
     obtain⟨l,rfl,h4⟩:=Jf1.1 h4;obtain⟨h,rfl,h5⟩:=Jf1.1 h5;intro hp;simp only[execOp,hr _ _ h1,Jbb,Jf2,hr _ _ h4,hr _ _ h5];refine V ?_;simp only[Instr.sliceAt,aD,bA hu,Jdt,Instr.slice,Option.isSome_none,Jb9,Jba,Instr.sliceBounds,aF];rw[yA ⟨by omega,by omega⟩,Jdt,yA ⟨by omega,by omega⟩];rfl
    .rename_i k1 a h4 h5 h6
     obtain⟨l,rfl,h4⟩:=Jf1.1 h4;obtain rfl:=Jf3.1 h6;intro hp;simp only[execOp,hr _ _ h1,Jbb,Jf2,hr _ _ h4];refine V ?_;simp only[Instr.sliceAt,aD,bA hu,Jdt,Instr.slice,Option.isSome_none,Jb9,Jba,Instr.sliceBounds,aF];rw[yA ⟨by omega,by omega⟩];rfl
    .trivial
   .rename_i a n cap e h1 h2
    obtain⟨_,_,h3⟩:=hT.ok.is h2;have hu:P.underlying t=some (.slice e):=oD h3.kind▸h3.under;split
    .rename_i z hz
     obtain⟨_,_,h3'⟩:=hT.ok.is hz;split
     .rename_i k1 l k2 h h4 h5
      obtain⟨lo,rfl,h4⟩:=Jf1.1 h4;obtain⟨hi,rfl,h5⟩:=Jf1.1 h5;intro hp;simp only[execOp,hr _ _ h1,Jbb,Jf2,hr _ _ h4,hr _ _ h5];refine V ?_;simp only[Instr.sliceAt,aD,bA hu,Jdt,Instr.slice,Instr.sliceBounds,aF];rw[yA ⟨by omega,by omega⟩,Jdt,yA ⟨by omega,by omega⟩];simp only[Jdt,gu h3'.info,h3'.size]
     .rename_i k1 l h4 h5 h6
      obtain⟨lo,rfl,h4⟩:=Jf1.1 h4;obtain rfl:=Jf3.1 h6;intro hp;simp only[execOp,hr _ _ h1,Jbb,Jf2,hr _ _ h4];refine V ?_;simp only[Instr.sliceAt,aD,bA hu,Jdt,Instr.slice,Instr.sliceBounds,aF];rw[yA ⟨by omega,by omega⟩];simp only[Jdt,gu h3'.info,h3'.size]
     .rename_i k1 h h4 h5 h6
      obtain rfl:=Jf3.1 h6;obtain⟨hi,rfl,h5⟩:=Jf1.1 h5;intro hp;simp only[execOp,hr _ _ h1,Jbb,Jf2,hr _ _ h5];refine V ?_;simp only[Instr.sliceAt,aD,bA hu,Jdt,Instr.slice,Instr.sliceBounds,aF];rw[yA ⟨by omega,by omega⟩];simp only[Jdt,gu h3'.info,h3'.size,Jc7,Nat.sub_zero];cases a with
      |none=>simp
      |some a=>simp[Addr.add]
     .trivial
    .trivial
   .trivial
 |call c =>
  obtain⟨callee,args,ats⟩:=c;cases callee with
  |builtin b =>
   simp only[iT,uK];split
   .rename_i x t ha ht
    split
    .rename_i s h1 h2
     obtain⟨_,_,h3⟩:=hT.ok.is h2;have hu:P.underlying t=some .string:=zV h3.kind▸h3.under;obtain rfl:args=#[x]:=Jdv ha;obtain rfl:ats=#[t]:=Jdv ht;simp only[Qr.ok,execOp,resolve,aD,aF,Jdt,invoke,builtin,Builtin.len_];simp only[map_toArray,Jcj,map_nil,hr _ _ h1];simp[aD,bA hu,aF,goInt]
    .rename_i a n c e h1 h2
     obtain⟨_,_,h3⟩:=hT.ok.is h2;have hu:P.underlying t=some (.slice e):=oD h3.kind▸h3.under;obtain rfl:args=#[x]:=Jdv ha;obtain rfl:ats=#[t]:=Jdv ht;simp only[Qr.ok,execOp,resolve,aD,aF,Jdt,invoke,builtin,Builtin.len_];simp only[map_toArray,Jcj,map_nil,hr _ _ h1];simp[aD,bA hu,aF,goInt]
    .trivial
   .rename_i x t ha ht
    split
    .rename_i a n c e h1 h2
     obtain⟨_,_,h3⟩:=hT.ok.is h2;have hu:P.underlying t=some (.slice e):=oD h3.kind▸h3.under;obtain rfl:args=#[x]:=Jdv ha;obtain rfl:ats=#[t]:=Jdv ht;simp only[Qr.ok,execOp,resolve,aD,aF,Jdt,invoke,builtin,Builtin.cap_];simp only[map_toArray,Jcj,map_nil,hr _ _ h1];simp[aD,bA hu,aF,goInt]
    .trivial
   .rename_i x y ha
    split
    .rename_i k a l b h1 h2
     obtain rfl:args=#[x,y]:=Jdv ha;simp only[Qr.ok,execOp,resolve,aD,aF,Jdt,invoke,builtin,Builtin.max_];simp only[map_toArray,Jcj,map_nil,hr _ _ h1,hr _ _ h2];simp[aF,Builtin.max2]
    .trivial
   .rename_i x y ha
    split
    .rename_i k a l b h1 h2
     obtain rfl:args=#[x,y]:=Jdv ha;simp only[Qr.ok,execOp,resolve,aD,aF,Jdt,invoke,builtin,Builtin.min_];simp only[map_toArray,Jcj,map_nil,hr _ _ h1,hr _ _ h2];simp[aF,Builtin.min2]
    .trivial
   .trivial
  |value=>trivial
  |invoke=>trivial
 |_=>trivial
end
end
