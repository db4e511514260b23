/- Lemmas. -/
import Derived.Test.YtignemioillaiaaGreatG15
import Derived.Laws.CopyOwn
import Derived.Laws.BytesString
import Derived.Laws.MakeOwn
namespace Go.Proofs.YtignemioillaiaaGreat
set_option maxHeartbeats 8000000
set_option maxRecDepth 100000
open List
section
open Go Go.IntWalk
structure M9(P:Program)(T:iY):Prop where
 ok:qh P T
 eq:(T.all λp=>!kI p.2 || (!P.stoodInHeld p.1 && !P.eqGuardType P.depth p.1))=true
noncomputable def O6(T:iY)(op:BinOp)(t:Nat)(xs ys:Array Value):Qr:=match T.get t,xL T 5 t xs.toList ys.toList,op with
 |some (.s _),some b,.eql=>.v (.bool b)
 |some (.s _),some b,.neq=>.v (.bool (!b))
 |_,_,_=>.no
noncomputable def iL(T:iY)(ρ:Operand->Option Value):Op->Qr
 |.binOp op t x y _=>match ρ x,ρ y with
  |some (.agg xs),some (.agg ys)=>O6 T op t xs ys
  |u,v=>DV T op t u v
 |op=>uh T ρ op
section
variable{P:Program}{T:iY}{ρ:Operand->Option Value}{r:Operand->Value}
theorem M9.eqs(h:M9 P T){t:Nat}{fs:List Nat}(ht:T.get t=some (.s fs)):P.stoodInHeld t=false/\P.eqGuardType P.depth t=false:=by
 have:=all_eq_true.1 h.eq _ (iY.mem ht);simpa[kI]using this
theorem Ie{t:Nat}(h:P.eqGuardType P.depth t=false){op:BinOp}{x y:Operand}{xs ys:Array Value}:aW P (eqGuard op t x y (.agg xs) (.agg ys))=some ():=by
 have e:aW P (do
  if !(<-program).eqGuardType (<-program).depth t then return
  if ← Op.eqGuardIn Op.maxDepth t (.agg xs) (.agg ys) then unsupported (.noEntry "binop/eql: two nil values of an interface type with methods, in a part of a struct or an array")) = some () := by
  have hp:aW P program=some P:=rfl;rw[aF,hp,Option.bind_some,aF,hp,Option.bind_some,h];rfl
 cases op<;>first|rfl|exact e
theorem acf(hT:M9 P T){op:BinOp}{t:Nat}{x y:Operand}{yt:TypeId}{dst:Option Tmp}{ty:TypeId}{pos:String}{after:Array Edge}{guard:Option (Nat×Bool)}{xs ys:Array Value}(hx:r x=.agg xs)(hy:r y=.agg ys):(O6 T op t xs ys).ok P (execOp r ⟨dst,.binOp op t x y yt,ty,pos,after,guard⟩):=by
 have base:execOp r ⟨dst,.binOp op t x y yt,ty,pos,after,guard⟩=(do let v <- (do eqGuard op t x y (r x) (r y);binOp op t (r x) (r y));pure (Next.value v)):=rfl;rw[base,hx,hy];unfold O6;split
 ·rename_i fs b h1 h2
  have he:=QU hT.ok (λt fs h=>(hT.eqs h).1) 5 9995 t _ _ _ (.agg xs) (.agg ys) b h1 h2 (by simp[toV,kI]) (by simp[toV,kI]);refine Ch ?_;rw[aF,Ie (hT.eqs h1).2,Option.bind_some];show aW P (do pure (Value.bool (<-Op.equalIn (5+9995) t (.agg xs) (.agg ys))))=_;rw[aF,he];rfl
 ·rename_i fs b h1 h2
  have he:=QU hT.ok (λt fs h=>(hT.eqs h).1) 5 9995 t _ _ _ (.agg xs) (.agg ys) b h1 h2 (by simp[toV,kI]) (by simp[toV,kI]);refine Ch ?_;rw[aF,Ie (hT.eqs h1).2,Option.bind_some];show aW P (do pure (Value.bool (!(<-Op.equalIn (5+9995) t (.agg xs) (.agg ys)))))=_;rw[aF,he];rfl
 ·trivial
theorem Zw(hT:qh P T){s d:Nat}{k l m:IntKind}{n:Int}(hs:T.get s=some (.i k))(hd:T.get d=some (.i l)):aW P (convert s d (.int m n))=some (.int l (l.wrap n)):=by
 obtain⟨_,_,h1⟩:=hT.is hs;obtain⟨_,_,h2⟩:=hT.is hd;unfold convert;simp only[aF,bA (Bc h1.kind▸h1.under),bA (Bc h2.kind▸h2.under),Option.bind_some,Conv.intToInt,aH]
theorem XL(hT:qh P T){s d:Nat}{u:ByteArray}(hs:T.get s=some .t)(hd:T.get d=some .t):aW P (convert s d (.string u))=some (.string u):=by
 obtain⟨_,_,h1⟩:=hT.is hs;obtain⟨_,_,h2⟩:=hT.is hd;unfold convert;simp only[aF,bA (za h1.kind▸h1.under),bA (za h2.kind▸h2.under),Option.bind_some,aH]
theorem xM{k:IntKind}{i:Int}{y:Nat}{c:BoundsCode}(h:0<=i/\i<=y):aW P (Instr.sliceBound (.int k i) y c)=some i.toNat:=by
 unfold Instr.sliceBound;simp only[aF,asIntOf,aH,Option.bind_some,h,and_self,if_true]
theorem O7(hT:M9 P T)(hr:∀x v,ρ x=some v->r x=v)(o:Oper):(iL T ρ o.op).ok P (execOp r o):=by
 obtain⟨dst,op,ty,pos,after,guard⟩:=o;have V:∀{s:Sem Value} {x:Value},aW P s=some x->aW P (do let v <- s;pure (Next.value v))=some (.value x):=Ch;cases op with
 |binOp op t x y yt =>
  show(match ρ x,ρ y with
   |some (.agg xs),some (.agg ys)=>O6 T op t xs ys
   |u,v=>DV T op t u v).ok P _
  split
  ·rename_i xs ys h1 h2
   exact acf hT (hr _ _ h1) (hr _ _ h2)
  ·exact ace hT.ok hr
 |move x =>
  simp only[iL,uh];split
  ·rename_i v h;simp only[Qr.ok,execOp,hr _ _ h,aH]
  ·trivial
 |assign x =>
  simp only[iL,uh];split
  ·rename_i v h;simp only[Qr.ok,execOp,hr _ _ h,aH]
  ·trivial
 |pick c a b =>
  simp only[iL,uh];split
  ·rename_i t u v h1 h2 h3
   simp only[Qr.ok,execOp,hr _ _ h1,hr _ _ h2,hr _ _ h3,asBool,aF,aH,Option.bind_some];cases t<;>rfl
  ·trivial
 |fieldAddr s x f =>
  simp only[iL,uh];split
  ·rename_i b o fs h1 h2
   split
   ·rename_i d u h3
    split
    ·rename_i z h4
     cases h0:Nat.beq (bD T u) 0 with
     |true=>trivial
     |false =>
      simp only[Qr.ok,execOp,hr _ _ h1,cond_false];exact V (ME hT.ok h2 h3 h4 λe=>by rw[e]at h0;cases h0)
    ·trivial
   ·trivial
  ·trivial
 |field s x f =>
  simp only[iL,uh];split
  ·rename_i cs fs h1 h2
   split
   ·rename_i d u h3
    split
    ·rename_i gs h4
     simp only[Qr.ok,execOp,hr _ _ h1];exact V (by rw[M7 hT.ok h2 h3 h4];rfl)
    ·rename_i z h4 h5
     split
     ·rename_i v h6
      simp only[Qr.ok,execOp,hr _ _ h1];refine V ?_;rw[M7 hT.ok h2 h3 h5,if_neg,h6];cases z<;>simp_all [kI]
     ·trivial
    ·trivial
   ·trivial
  ·trivial
 |indexAddr t x i =>
  simp only[iL,uh];split
  ·rename_i b o n c k j e h1 h2 h3
   split
   ·rename_i z h4
    intro hp;simp only[execOp,hr _ _ h1,hr _ _ h2];exact V (XJ hT.ok h3 h4 hp)
   ·trivial
  ·trivial
 |index t x i =>
  simp only[iL,uh];split
  ·rename_i s k j h1 h2 h3
   intro hp;simp only[execOp,hr _ _ h1,hr _ _ h2];exact V (Us hT.ok h3 hp)
  ·trivial
 |unOp op t x =>
  simp only[iL,uh];split
  ·rename_i b h1
   simp only[Qr.ok,execOp,hr _ _ h1,Op.unary];rfl
  ·rename_i n h1
   intro hp;simp only[execOp,hr _ _ h1,Op.unary,Op.intArith];show some (Next.value (.int .i64 (IntKind.i64.wrap (0 - n))))=_;rw[Go.IntWalk.i64_in _ hp]
  ·trivial
 |convert s d x =>
  simp only[iL,uh];split
  ·rename_i m n k l h1 h2 h3
   have e:=Zw hT.ok (m:=m) (n:=n) h2 h3;have e':aW P (execOp r ⟨dst,.convert s d x,ty,pos,after,guard⟩)=some (.value (.int l (l.wrap n))):=by
    simp only[execOp,hr _ _ h1];exact V e
   cases l<;>first
    |trivial
    |exact⟨e',λhp=>by rw[u8_in _ hp]⟩
    |exact⟨e',λhp=>by rw[u32_in _ hp]⟩
    |exact⟨e',λhp=>by rw[u64_in _ hp]⟩
    |exact⟨e',λhp=>by rw[i64_in _ hp]⟩
  ·rename_i u h1 h2 h3
   simp only[Qr.ok,execOp,hr _ _ h1];exact V (XL hT.ok h2 h3)
  ·trivial
 |extract x i =>
  simp only[iL,uh];split
  ·rename_i vs h1
   split
   ·rename_i v h2
    simp only[Qr.ok,execOp,hr _ _ h1,Instr.extract];rw[Array.getElem?_toList]at h2;rw[h2];rfl
   ·trivial
  ·trivial
 |build t ps =>
  simp only[iL,uh];split
  ·rename_i fs vs h1 h2
   split
   ·rename_i cs h3
    cases h4:fs.all (λu=>(T.get u).isSome)with
    |false=>trivial
    |true =>
     simp only[Qr.ok,execOp,cond_true];have e:(ps.map λ(p:Nat×Operand)=>(p.1,r p.2))=vs.toArray:=by
      apply Array.ext'
      rw[Array.toList_map];exact M8 hr h2
     exact V (by rw[show(ps.map λx=>match x with|(i,x)=>(i,r x))=(ps.map λ(p:Nat×Operand)=>(p.1,r p.2))from rfl,e];exact XK hT.ok h1 h3 h4)
   ·trivial
  ·trivial
 |makeFunc fn a b =>
  simp only[iL,uh];split
  ·rename_i u v h1 h2
   simp only[Qr.ok,execOp,Instr.makeFunc];have e1:a.map r=u.toArray:=by apply Array.ext';rw[Array.toList_map];exact Ci hr h1
   have e2:b.map r=v.toArray:=by apply Array.ext';rw[Array.toList_map];exact Ci hr h2
   rw[e1,e2];rfl
  ·trivial
 |nilCheck x =>
  simp only[iL,uh];split
  ·rename_i a h1
   simp only[Qr.ok,execOp,hr _ _ h1,aH]
  ·rename_i f u v h1
   simp only[Qr.ok,execOp,hr _ _ h1,aH]
  ·trivial
 |slice t x lo hi mx =>
  cases mx with
  |some m =>
   cases lo with
   |none=>trivial
   |some lo =>
    cases hi with
    |none=>trivial
    |some hi =>
     simp only[iL,uh];split
     ·rename_i a n cap e h1 h2
      obtain⟨_,_,h3⟩:=hT.ok.is h2;have hu:P.underlying t=some (.slice e):=nN h3.kind▸h3.under;split
      ·rename_i z hz
       obtain⟨_,_,h3'⟩:=hT.ok.is hz;split
       ·rename_i k1 l k2 h k3 mm h4 h5 h6
        intro hp;simp only[execOp,hr _ _ h1,Option.map_some,hr _ _ h4,hr _ _ h5,hr _ _ h6];refine V ?_;simp only[Instr.sliceAt,aF,bA hu,Option.bind_some,Instr.slice,Instr.sliceBounds,aH];rw[xM ⟨by omega,by omega⟩,Option.bind_some,xM ⟨by omega,by omega⟩,Option.bind_some,xM ⟨by omega,by omega⟩];simp only[Option.bind_some,gZ h3'.info,h3'.size]
       ·trivial
      ·trivial
     ·trivial
  |none =>
   simp only[iL,uh];split
   ·rename_i s h1 h2
    obtain⟨_,_,h3⟩:=hT.ok.is h2;have hu:P.underlying t=some .string:=za h3.kind▸h3.under;split
    ·rename_i k1 a k2 b h4 h5
     obtain⟨l,rfl,h4⟩:=Option.bind_eq_some_iff.1 h4;obtain⟨h,rfl,h5⟩:=Option.bind_eq_some_iff.1 h5;intro hp;simp only[execOp,hr _ _ h1,Option.map_some,Option.map_none,hr _ _ h4,hr _ _ h5];refine V ?_;simp only[Instr.sliceAt,aF,bA hu,Option.bind_some,Instr.slice,Option.isSome_none,Bool.false_eq_true,if_false,Instr.sliceBounds,aH];rw[xM ⟨by omega,by omega⟩,Option.bind_some,xM ⟨by omega,by omega⟩];rfl
    ·rename_i k1 a h4 h5 h6
     obtain⟨l,rfl,h4⟩:=Option.bind_eq_some_iff.1 h4;obtain rfl:=Option.isNone_iff_eq_none.1 h6;intro hp;simp only[execOp,hr _ _ h1,Option.map_some,Option.map_none,hr _ _ h4];refine V ?_;simp only[Instr.sliceAt,aF,bA hu,Option.bind_some,Instr.slice,Option.isSome_none,Bool.false_eq_true,if_false,Instr.sliceBounds,aH];rw[xM ⟨by omega,by omega⟩];rfl
    ·trivial
   ·rename_i a n cap e h1 h2
    obtain⟨_,_,h3⟩:=hT.ok.is h2;have hu:P.underlying t=some (.slice e):=nN h3.kind▸h3.under;split
    ·rename_i z hz
     obtain⟨_,_,h3'⟩:=hT.ok.is hz;split
     ·rename_i k1 l k2 h h4 h5
      obtain⟨lo,rfl,h4⟩:=Option.bind_eq_some_iff.1 h4;obtain⟨hi,rfl,h5⟩:=Option.bind_eq_some_iff.1 h5;intro hp;simp only[execOp,hr _ _ h1,Option.map_some,Option.map_none,hr _ _ h4,hr _ _ h5];refine V ?_;simp only[Instr.sliceAt,aF,bA hu,Option.bind_some,Instr.slice,Instr.sliceBounds,aH];rw[xM ⟨by omega,by omega⟩,Option.bind_some,xM ⟨by omega,by omega⟩];simp only[Option.bind_some,gZ h3'.info,h3'.size]
     ·rename_i k1 l h4 h5 h6
      obtain⟨lo,rfl,h4⟩:=Option.bind_eq_some_iff.1 h4;obtain rfl:=Option.isNone_iff_eq_none.1 h6;intro hp;simp only[execOp,hr _ _ h1,Option.map_some,Option.map_none,hr _ _ h4];refine V ?_;simp only[Instr.sliceAt,aF,bA hu,Option.bind_some,Instr.slice,Instr.sliceBounds,aH];rw[xM ⟨by omega,by omega⟩];simp only[Option.bind_some,gZ h3'.info,h3'.size]
     ·rename_i k1 h h4 h5 h6
      obtain rfl:=Option.isNone_iff_eq_none.1 h6;obtain⟨hi,rfl,h5⟩:=Option.bind_eq_some_iff.1 h5;intro hp;simp only[execOp,hr _ _ h1,Option.map_some,Option.map_none,hr _ _ h5];refine V ?_;simp only[Instr.sliceAt,aF,bA hu,Option.bind_some,Instr.slice,Instr.sliceBounds,aH];rw[xM ⟨by omega,by omega⟩];simp only[Option.bind_some,gZ h3'.info,h3'.size,Nat.zero_mul,Nat.sub_zero];cases a with
      |none=>simp
      |some a=>simp[Addr.add]
     ·trivial
    ·trivial
   ·trivial
 |call c =>
  obtain⟨callee,args,ats⟩:=c;cases callee with
  |builtin b =>
   simp only[iL,uh];split
   ·rename_i x t ha ht
    split
    ·rename_i s h1 h2
     obtain⟨_,_,h3⟩:=hT.ok.is h2;have hu:P.underlying t=some .string:=za h3.kind▸h3.under;obtain rfl:args = #[x]:=Array.ext' ha;obtain rfl:ats = #[t]:=Array.ext' ht;simp only[Qr.ok,execOp,resolve,aF,aH,Option.bind_some,invoke,builtin,Builtin.len_];simp only[map_toArray,map_cons,map_nil,hr _ _ h1];simp[aF,bA hu,aH,goInt]
    ·rename_i a n c e h1 h2
     obtain⟨_,_,h3⟩:=hT.ok.is h2;have hu:P.underlying t=some (.slice e):=nN h3.kind▸h3.under;obtain rfl:args = #[x]:=Array.ext' ha;obtain rfl:ats = #[t]:=Array.ext' ht;simp only[Qr.ok,execOp,resolve,aF,aH,Option.bind_some,invoke,builtin,Builtin.len_];simp only[map_toArray,map_cons,map_nil,hr _ _ h1];simp[aF,bA hu,aH,goInt]
    ·trivial
   ·rename_i x t ha ht
    split
    ·rename_i a n c e h1 h2
     obtain⟨_,_,h3⟩:=hT.ok.is h2;have hu:P.underlying t=some (.slice e):=nN h3.kind▸h3.under;obtain rfl:args = #[x]:=Array.ext' ha;obtain rfl:ats = #[t]:=Array.ext' ht;simp only[Qr.ok,execOp,resolve,aF,aH,Option.bind_some,invoke,builtin,Builtin.cap_];simp only[map_toArray,map_cons,map_nil,hr _ _ h1];simp[aF,bA hu,aH,goInt]
    ·trivial
   ·rename_i x y ha
    split
    ·rename_i k a l b h1 h2
     obtain rfl:args = #[x,y]:=Array.ext' ha;simp only[Qr.ok,execOp,resolve,aF,aH,Option.bind_some,invoke,builtin,Builtin.max_];simp only[map_toArray,map_cons,map_nil,hr _ _ h1,hr _ _ h2];simp[aH,Builtin.max2]
    ·trivial
   ·rename_i x y ha
    split
    ·rename_i k a l b h1 h2
     obtain rfl:args = #[x,y]:=Array.ext' ha;simp only[Qr.ok,execOp,resolve,aF,aH,Option.bind_some,invoke,builtin,Builtin.min_];simp only[map_toArray,map_cons,map_nil,hr _ _ h1,hr _ _ h2];simp[aH,Builtin.min2]
    ·trivial
   ·trivial
  |value=>trivial
  |invoke=>trivial
 |_=>trivial
end
end
section
open Go Go.Conc Go.RowKit
theorem QV{P:Program}(w:World)(dT sT ty elem:TypeId)(size g off dLen dCap:Nat)(a:Addr)(sLen sCap:Nat)(cur:List Value)(t:TypeId)(cs:List Value)
 (hu:P.underlying dT=some (.slice elem)) (hs:(P.info? elem).map (·.size)=some size)
 (hg:w.heap[g]? = some (.cells cur.toArray t)) (hn:cs.length=Nat.min sLen dLen*size)
 (hsrc:∀j v,cs[j]? = some v->w.cell? (a.add j)=some v) (hfit:off+cs.length<=cur.length) (h1:∀v∈cs,v.oneCell'=true) :
 (Builtin.copy_ #[dT,sT] ty #[.slice (some ⟨g,off,none⟩) dLen dCap,.slice (some a) sLen sCap]).run P w =
  .ok (goInt (Nat.min sLen dLen)) (w.setRow g (splice cur off cs).toArray):=by
 have hl:=run_loadCells_list (P:=P) w a cs hsrc;have hst:=run_storeCells_at P g off t cs 0 cur.toArray w hg (by simpa using hfit) h1;cases hq:P.info? elem with
 |none=>simp[hq]at hs
 |some i =>
  have hi:i.size=size:=by simpa[hq]using hs
  simp[Builtin.copy_,run_underlying hu,Builtin.lenOf,Builtin.firstCells,sizeOf,typeInfo,hq,hi,<-hn,hl,hst,splice]
theorem O8{P:Program}(w:World)(t ty e:TypeId)(i:TypeInfo)(z:Value)(ht:P.underlying t=some (.slice e))(hi:P.info? e=some i)(hz:i.zero=some z)(hzs:z.cells.size=i.size)(h1:∀v∈z.cells,v.oneCell'=true)
 (g off n c:Nat) (hn:0<n) (cur:List Value) (t':TypeId) (hg:w.heap[g]? = some (.cells cur.toArray t')) (hfit:off+n*i.size<=cur.length) :
 ∃zs:List Value,zs.length=n*i.size/\(Builtin.clear_ #[t] ty #[.slice (some ⟨g,off,none⟩) n c]).run P w=.ok (.tuple #[]) (w.setRow g (splice cur off zs).toArray):=by
 have hzl:(Builtin.zeroCells z.cells n).toList.length=n*i.size:=by rw[Array.length_toList,size_zeroCells,hzs]
 refine⟨(Builtin.zeroCells z.cells n).toList,hzl,?_⟩;have hone:∀v∈(Builtin.zeroCells z.cells n).toList,v.oneCell'=true:=by
  intro v hv;simp only[Builtin.zeroCells,Array.toList_map,mem_map]at hv;obtain⟨j,hj,rfl⟩:=hv;have hp:0<z.cells.size:=by
   rcases Nat.eq_zero_or_pos z.cells.size with h|h
   ·simp[h]at hj
   ·exact h
  rw[getElem!_pos z.cells (j%z.cells.size) (Nat.mod_lt _ hp)];exact h1 _ (Array.getElem_mem _)
 have hst:=run_storeCells_at P g off t' (Builtin.zeroCells z.cells n).toList 0 cur.toArray w hg (by rw[hzl];simpa using hfit) hone;obtain⟨k,rfl⟩:∃k,n=k+1:=⟨n - 1,by omega⟩;simp[Builtin.clear_,run_underlying ht,zeroValue,typeInfo,hi,hz,hst,splice]
theorem QX{P:Program}(w:World)(t tn ty e:TypeId)(i:TypeInfo)(z:Value)(k kn:IntKind)(ht:P.underlying t=some (.slice e))(htn:P.underlying tn=some (.int kn))(hi:P.info? e=some i)(hz:i.zero=some z)(hzs:z.cells.size=i.size)
 (v:Value) (n:Nat) (xs:List Value) (hown:w.ownsRow 0 e i.size v n xs) (m:Nat) (h0:0<m) (hs:0<i.size) (hv:∀a c,v=.slice a n c->c<n+m) (hb:(n+m)*i.bytes<=140737488355328) (h63:n+m<=maxLen) :
 ∃b cap cur w',(Builtin.append_ #[t,tn] ty #[v,.int k m]).run P w=.ok (.slice (some ⟨b,0,none⟩) (n+m) cap) w'/\w'.heap[b]? = some (.cells cur e)/\cur.size=cap*i.size/\cur.toList.take (n*i.size)=xs/\n+m<=cap/\cap<=maxLen/\GB none w w'/\w.heap.size<=b:=by
 have hmx:n+m<=9223372036854775807:=by simpa[maxLen]using h63
 have hm:m≠0:=by omega
 have hw:IntKind.i64.wrap (m:Int)=m:=by rw[IntKind.wrap_i64];omega
 have hneg:¬((m:Int)<0):=by omega
 have hns:¬(m*i.size=0):=Nat.mul_ne_zero hm (by omega);have h48i:¬(281474976710656<(m:Int)*(i.bytes:Int)):=by
  rw[<-Int.natCast_mul];have:m*i.bytes<=(n+m)*i.bytes:=Nat.mul_le_mul_right _ (by omega);omega
 have gal:∀(o:Obj),GB none w (w.drew.alloc o):=λo=>⟨rfl,rfl,by simp,λx hx _=>heap_alloc_old w.drew _ (show x<w.drew.heap.size from hx)⟩
 have key:∀(sCap:Nat),sCap<n+m->∀cs:Array Value,cs=xs.toArray++Builtin.zeroCells z.cells m++Builtin.zeroCells z.cells (grownCap w (n+m) sCap e - (n+m))->(Builtin.append_ #[t,tn] ty #[v,.int k m]).run P w=.ok (.slice (some ⟨w.heap.size,0,none⟩) (n+m) (grownCap w (n+m) sCap e)) (w.drew.alloc (.cells cs e))->∃b cap cur w',(Builtin.append_ #[t,tn] ty #[v,.int k m]).run P w=.ok (.slice (some ⟨b,0,none⟩) (n+m) cap) w'/\w'.heap[b]? = some (.cells cur e)/\cur.size=cap*i.size/\cur.toList.take (n*i.size)=xs/\n+m<=cap/\cap<=maxLen/\GB none w w'/\w.heap.size<=b:=λsCap hc cs hcs hr=>by
  have hge:=grownCap_ge w (n+m) sCap e;refine⟨_,_,_,_,hr,heap_alloc_new w.drew _,?_,?_,hge,grownCap_le_maxLen w (n+m) sCap e h63,gal _,Nat.le_refl _⟩
  ·subst hcs
   simp only[Array.size_append,size_toArray,size_zeroCells,hzs,hown.1,<-Nat.add_mul];congr 1
   omega
  ·subst hcs
   simp only[Array.toList_append,append_assoc];rw[<-hown.1];exact take_left
 have h63':¬(9223372036854775807<((n:Int)+(m:Int))):=by omega
 rcases hown.2 with⟨rfl,rfl⟩|⟨g,cap,cur,rfl,_,hg,hnc,hcm,hcs,htake⟩
 ·have hx:xs=[]:=eq_nil_of_length_eq_zero (by simpa using hown.1)
  subst hx;have h48':¬(281474976710656<Builtin.nextslicecap (0+m) 0*i.bytes):=by have:=growslice_fits (need:=0+m) (old:=0) (by omega) hb;omega
  refine key 0 (by omega) _ rfl ?_;simp only[Nat.zero_add]at h48' h63' |-;simp[Builtin.append_,run_underlying ht,run_underlying htn,sizeOf,typeInfo,zeroValue,hi,hz,asInt,asIntOf,hw,hm,hneg,hns,h48',h48i,Question.forced,newRow,grownCap,Builtin.firstCells,Builtin.lenOf];omega
 ·have hc:=hv _ _ rfl
  have hn:¬(n+m<=cap):=by omega
  have h48':¬(281474976710656<Builtin.nextslicecap (n+m) cap*i.bytes):=by have:=growslice_fits hc hb;omega
  have hfo:=run_firstCells_some (P:=P) w.drew i.size n ⟨g,0,none⟩ n cap xs hown.1 (by have:=hown.cells (g:=g) rfl;simpa using this);refine key cap hc _ rfl ?_;simp[Builtin.append_,run_underlying ht,run_underlying htn,sizeOf,typeInfo,zeroValue,hi,hz,asInt,asIntOf,hw,hn,hneg,hns,h63',h48',h48i,Question.forced,hfo,newRow,grownCap]
def vQ(l:List Int):ByteArray:=l.foldl (λr n=>r.push (UInt8.ofNat n.toNat)) ByteArray.empty
theorem Uu{P:Program}{w:World}{v:Value}{n e:Nat}{l:List Int}(src dst:TypeId)(hs:P.underlying src=some (.slice e))(he:P.underlying e=some (.int .u8))(hd:P.underlying dst=some .string)(hown:w.ownsRow 0 e 1 v n (l.map λb=>.int .u8 b)) :
 (convert src dst v).run P w=.ok (.string (vQ l)) w:=by
 have hn:l.length=n:=by have:=hown.1;simpa using this
 rcases hown.2 with⟨rfl,h0⟩|⟨g,cap,cur,rfl,_,hgg,_,_,_,_⟩
 ·have hl:l=[]:=eq_nil_of_length_eq_zero (by omega)
  subst hl;rw[run_convert_bytes_string w src dst e none 0 0 hs he hd];rfl
 ·rw[run_convert_bytes_string w src dst e _ _ _ hs he hd]
  refine run_bytesToString w _ _ _ l ?_;have:=run_loadCells_list (P:=P) w ⟨g,0,none⟩ (l.map λb=>.int .u8 b) (World.ownsRow.cells hown (g:=g) rfl);rw[length_map,hn]at this;exact this
end
section
open Go Go.Conc
def aJ(P:Program)(s:Sem Next)(w:World):Prop:=(∀e∈s.events P w #[],ng e)/\fZ w (Jp (s.run P w))
theorem aJ.plain{P:Program}{s:Sem Next}(h:Plain [] s)(w:World):aJ P s w:=OE h w
theorem aJ.quiet{P:Program}{s:Sem Next}{a:Next}(h:aW P s=some a)(w:World):aJ P s w:=by
 refine⟨λe he=>?_,?_⟩
 ·rw[H9 h]at he;simp at he
 ·rw[iR h];exact fZ.refl _
class ko(P:Program) where
 ca:FuncId->Array Value->World->(Value->World->Prop)->Prop
 same:∀{f:FuncId} {args:Array Value} {w w₁:World} {Post:Value->World->Prop},ca f args w Post->cB w w₁->ca f args w₁ Post
 Φ:Bool->(World->World->Array Event->Prop)->(Goroutine->World->Prop)->Prop
 serve:∀{main:Bool} {D:World->World->Array Event->Prop} {X:Goroutine->World->Prop},Shut P main D X->Φ main D X->∀{f:FuncId} {args:Array Value} {w:World} {Post:Value->World->Prop} {cF:Frame} {cs:List Frame},ca f args w Post->(∀v w',Post v w'->X (G (cF.finish v) cs) w')->X (G (Frame.enter P f args .normal) (cF::cs)) w
structure SX(P:Program)[ko P](main:Bool)(D:World->World->Array Event->Prop)(X:Goroutine->World->Prop):Prop extends Shut P main D X where
 phi:ko.Φ P main D X
instance ahE(P:Program):ko P:=⟨ag P,λh hs=>h.same hs,λ_ _ _=>True,λhX _=>λh hk=>h _ _ _ _ hX λ_ v w' _ hl hp=>hX.back hl (hk v w' hp)⟩
def iA(P:Program)[ko P](o:Oper)(r:Operand->Value)(w:World)(K:Value->World->Prop):Prop :=
 (∀w₁,cB w w₁->aJ P (execOp r o) w₁/\∃v w',((execOp r o).run P w₁=.ok (.value v) w'\/((execOp r o).run P w₁=.ok .skip w'/\v=undef))/\K v w') \/
 (∃f args Post,(∀w,(execOp r o).run P w=.ok (.enter f args) w)/\(∀w,(execOp r o).events P w #[] = #[])/\ko.ca P f args w Post/\∀v w',Post v w'->K v w')
section
variable{P:Program}[ko P]{main:Bool}{D:World->World->Array Event->Prop}{X:Goroutine->World->Prop}{b:Frame}{k:List Item}{cs:List Frame}{ops:Array Oper}{w:World}{o:Oper}{r:Operand->Value}{K:Value->World->Prop}
theorem iA.go(hX:SX P main D X){i:Nat}{rest:List Nat}{a:Act}(ho:ops[i]? = some o)(hw:Region.wanted o (yielded ops a.tmps)=true)(hk:b.kind≠.early)(h:iA P o a.eval w K)(hK:∀v w',K v w'->X (G (b.at (a.put o.dst v) (.inRegion ops rest::k)) cs) w'):X (G (b.at a (.inRegion ops (i::rest)::k)) cs) w:=by
 rcases h with h|⟨f,args,Post,h1,h2,h3,h4⟩
 ·refine hX.step rfl λw₁ h1=>?_
  obtain⟨⟨hev,hch⟩,v,w',hr,hx⟩:=h w₁ h1;have OP:∀e∈listed P b.fn a o w₁,ng e:=λe he=>hev e (vJ _ _ _ e he)
  rcases hr with hr|⟨hr,rfl⟩
  ·rw[stepG_value ho hw hk hr,goes_go]
   rw[hr]at hch;exact⟨hX.plain ⟨OP,hch⟩,hK _ _ hx⟩
  ·rw[stepG_none ho hw hk hr,goes_go]
   rw[hr]at hch;exact⟨hX.plain ⟨OP,hch⟩,hK _ _ hx⟩
 ·refine aI.enter hX.c ho hw hk h1 h2 (ko.serve hX.toShut hX.phi h3 λv w' hp=>?_)
  rw[Frame.finish_at,ho];exact hK _ _ (h4 v w' hp)
theorem iA.mono{K':Value->World->Prop}(h:iA P o r w K)(hk:∀v w,K v w->K' v w):iA P o r w K':=by
 rcases h with h|⟨f,args,Post,h1,h2,h3,h4⟩
 ·exact .inl λw₁ hs=>⟨(h w₁ hs).1,by obtain⟨v,w',e1,e2⟩:=(h w₁ hs).2;exact⟨v,w',e1,hk _ _ e2⟩⟩
 ·exact .inr ⟨f,args,Post,h1,h2,h3,λv w' hp=>hk _ _ (h4 v w' hp)⟩
theorem iA.same{w₁:World}(h:iA P o r w K)(hs:cB w w₁):iA P o r w₁ K:=by
 rcases h with h|⟨f,args,Post,h1,h2,h3,h4⟩
 ·exact .inl λw₂ h2=>h w₂ (jK _ _ _ hs h2)
 ·exact .inr ⟨f,args,Post,h1,h2,ko.same h3 hs,h4⟩
end
def iB(c:Bool)(A B:Prop):Prop:=match c with
 |true=>A
 |false=>B
def callable(P:Program)(g:Nat):Bool:=match P.funcs[g]? with
 | some fn => !(fn.name == "runtime.NumGoroutine") && !fn.body.isNone
 |none=>false
structure mH(P:Program) where
 T:iY
 Zx:Nat->Bool
 tab:M9 P T
 fns:∀g,Zx g=true->callable P g=true
 QY:Nat->Nat×Nat
def one(v:Value):Bool:=match v with
 |.agg _=>false
 |.tuple _=>false
 |_=>true
theorem one_cell{v:Value}(h:one v=true):v.oneCell'=true:=by cases v<;>first|rfl|cases h
def GD(xs:List Value)(off n:Nat)(v:Value):Bool:=Nat.beq v.cells.toList.length n && v.cells.toList.all one && Nat.ble (off+n) xs.length
structure Na(a:Option Addr)(n c m:Nat)(w:World)(v':Value):Prop where
 own:∀g,v'.ownBlock=some g->(Value.slice a n c).ownBlock=some g\/w.heap.size<=g
 inp:∀g,a=some ⟨g,0,none⟩->n+m<=c->v'=.slice a (n+m) c
instance{a:Option Addr}{n c m:Nat}{w:World}{v':Value}:CoeFun (Na a n c m w v') (λ_=>∀g,v'.ownBlock=some g->(Value.slice a n c).ownBlock=some g\/w.heap.size<=g):=⟨Na.own⟩
instance{a:Option Addr}{n c m:Nat}{w:World}{v':Value}:CoeOut (Na a n c m w v') (∀g,v'.ownBlock=some g->(Value.slice a n c).ownBlock=some g\/w.heap.size<=g):=⟨Na.own⟩
section
variable{P:Program}(E:mH P)(s:Sg)(w:World)(K:Value->World->Prop)
noncomputable def yw(t:Nat):Option Value->Prop
 |some (.pointer (some ⟨b,off,none⟩))=>match E.T.get t with
  |some y=>∃xs ty,w.heap[b]? = some (.cells xs ty (E.QY b))/\iB (kI y) (iB (Nat.beq (bD E.T t) 0) False (∃c,aK xs.toList off (bD E.T t)=c/\c.length=bD E.T t/\K (.agg c.toArray) w)) (∃v,xs.toList[off]? = some v/\K v w)
  |none=>False
 |_=>False
noncomputable def Zy(t:Nat):Option Value->Option Value->Prop
 |some (.pointer (some ⟨b,off,none⟩)),some v=>match E.T.get t with
  |some _=>∃xs ty ys,w.heap[b]? = some (.cells xs ty)/\GD xs.toList off (bD E.T t) v=true/\xs.toList.take off++v.cells.toList++xs.toList.drop (off+bD E.T t)=ys/\∀w',w'.heap[b]? = some (.cells ys.toArray ty)->GB (some b) w w'->K undef w'
  |none=>False
 |_,_=>False
def QZ(o:Obj)(v:Nat->Value):Prop:=∀w' b,w'.heap[b]? = some o->GB none w w'->w.heap.size<=b->K (v b) w'
noncomputable def Zz[ko P]:Option Value->Option (List Value)->Prop
 |some (.func (.func g) fs cs),some vs=>iB (E.Zx g) (∃Post,ko.ca P g ((fs++vs.toArray)++cs) w Post/\∀v w',Post v w'->K v w') (∃v,∀w₁,cB w w₁->(aJ P (callFunc g ((fs++vs.toArray)++cs)) w₁/\(callFunc g ((fs++vs.toArray)++cs)).run P w₁=.ok (.value v) w₁)/\K v w₁)
 |_,_=>False
def J6(size:Nat)(m:Nat)(news:List Value):Option Addr->Prop
 |some ⟨B,off,none⟩=>∃nb tb,w.heap[B]? = some (.cells nb tb)/\aK nb.toList off (m*size)=news/\news.length=m*size/\news.all one=true
 |_=>False
noncomputable def ZA(t:Nat):Option Value->Option Value->Prop
 |some (.slice a n c),some (.slice none 0 _)=>match E.T.get t with
  |some (.l e)=>match E.T.get e with
   |some _=>n<=c/\K (.slice a n c) w
   |none=>False
  |_=>False
 |some (.slice a n c),some (.slice (some ad) m _)=>match E.T.get t with
  |some (.l e)=>match E.T.get e with
   |some _=>iB (Nat.beq (bD E.T e) 0) False <| ∃xs news,w.ownsRow 0 e (bD E.T e) (.slice a n c) n xs/\J6 w (bD E.T e) m news (some ad)/\n+m<=1000000000/\∀v' w',w'.ownsRow 0 e (bD E.T e) v' (n+m) (xs++news)->GB (Value.slice a n c).ownBlock w w'->Na a n c m w v'->K v' w'
   |none=>False
  |_=>False
 |_,_=>False
noncomputable def ZB(t tn:Nat):Option Value->Option Value->Prop
 |some (.slice a n c),some (.int _ m)=>match E.T.get t,E.T.get tn with
  |some (.l e),some (.i _)=>match E.T.get e with
   |some _=>iB (Nat.beq (bD E.T e) 0) False <| ∃xs,w.ownsRow 0 e (bD E.T e) (.slice a n c) n xs/\0<m/\(c:Int)<n+m/\(n:Int)+m<=1000000000/\∀b cap cur w',w'.heap[b]? = some (.cells cur e)->cur.size=cap*bD E.T e->cur.toList.take (n*bD E.T e)=xs->n+m.toNat<=cap->cap<=maxLen->GB none w w'->w.heap.size<=b->K (.slice (some ⟨b,0,none⟩) (n+m.toNat) cap) w'
   |none=>False
  |_,_=>False
 |_,_=>False
noncomputable def ZC(t:Nat):Option Value->Option Value->Prop
 |some (.slice (some ⟨g,off,none⟩) n _),some (.slice (some ad) m _)=>match E.T.get t with
  |some (.l e)=>match E.T.get e with
   |some _=>∃cur te news,w.heap[g]? = some (.cells cur te)/\J6 w (bD E.T e) (Nat.min m n) news (some ad)/\off+news.length<=cur.size/\∀w',w'.heap[g]? = some (.cells (cur.toList.take off++news++cur.toList.drop (off+news.length)).toArray te)->GB (some g) w w'->K (.int .i64 (Nat.min m n)) w'
   |none=>False
  |_=>False
 |_,_=>False
noncomputable def ZE(e:Nat):Option Value->Prop
 |some (.slice (some ⟨g,off,none⟩) n _)=>match E.T.get e with
  |some _=>iB ((zc E.T e).all one) (0<n/\∃cur te,w.heap[g]? = some (.cells cur te)/\off+n*bD E.T e<=cur.size/\∀zs w',zs.length=n*bD E.T e->w'.heap[g]? = some (.cells (cur.toList.take off++zs++cur.toList.drop (off+zs.length)).toArray te)->GB (some g) w w'->K (.tuple #[]) w') False
  |none=>False
 |_=>False
noncomputable def ZF(t t':Nat):Option Value->Prop
 |some (.slice a n c)=>match E.T.get t,E.T.get t' with
  |some (.l e),some .t=>match E.T.get e with
   |some (.i .u8)=>∃l:List Int,w.ownsRow 0 e 1 (.slice a n c) n (l.map λb=>.int .u8 b)/\K (.string (vQ l)) w
   |_=>False
  |_,_=>False
 |_=>False
noncomputable def ZG(t:Nat):Option Value->Option Value->Prop
 |some (.int _ i),some (.int _ j)=>match E.T.get t with
  |some (.l e)=>match E.T.get e with
   |some _=>i=j/\0<=i/\i<=1000/\QZ w K (.cells ((List.range (i.toNat*bD E.T e)).map λq=>(zc E.T e).getD (q%bD E.T e) undef).toArray e) λb=>.slice (some ⟨b,0,none⟩) i.toNat i.toNat
   |none=>False
  |_=>False
 |_,_=>False
noncomputable def ze(t:Nat):Option (Nat×Nat):=match E.T.get t with
 |some (.m key e)=>match E.T.get key,E.T.get e with
  |some (.i .u32),some _=>some (key,e)
  |_,_=>none
 |_=>none
noncomputable def Ig(t:Nat)(ok:Bool):Option Value->Option Value->Prop
 |some (.map (some m)),some (.int .u32 n)=>match ze E t with
  |some (_,e)=>∃f,fP w m f/\K (bif ok then .tuple #[(f n).getD (zv E.T e ((E.T.get e).getD .p)),.bool (f n).isSome]else(f n).getD (zv E.T e ((E.T.get e).getD .p))) w
  |none=>False
 |_,_=>False
noncomputable def ZH(t:Nat):Option Value->Option Value->Option Value->Prop
 |some (.map (some m)),some (.int .u32 n),some v=>match ze E t with
  |some _=>∃f,fP w m f/\∀w',fP w' m (qg f n (some v))->GB (some m) w w'->K undef w'
  |none=>False
 |_,_,_=>False
noncomputable def ZI(t t':Nat):Option Value->Option Value->Prop
 |some (.map (some m)),some (.int .u32 n)=>match ze E t with
  |some (key,_)=>iB (Nat.beq key t') (∃f,fP w m f/\∀w',fP w' m (qg f n none)->GB (some m) w w'->K (.tuple #[]) w') False
  |none=>False
 |_,_=>False
noncomputable def ZJ(t:Nat):Option Value->Prop
 |some (.map (some m))=>match ze E t with
  |some _=>∃f,fP w m f/\∀w',fP w' m (λ_=>none)->GB (some m) w w'->K (.tuple #[]) w'
  |none=>False
 |_=>False
noncomputable def ZK(t:Nat):Option Value->Prop
 |some (.map (some m))=>match ze E t with
  |some _=>∃l,mh w m l/\∀w' b,nE w' b m l l none->GB none w w'->w.heap.size<=b->K (.pointer (some ⟨b,0,none⟩)) w'
  |none=>False
 |_=>False
def ZL:Option Value->Prop
 |some (.pointer (some ⟨it,0,none⟩))=>∃m l todo cur,nE w it m l todo cur/\(todo=[]->K (.tuple #[.bool false]) w)/\∀i p w',todo[i]? = some p->nE w' it m l (todo.eraseIdx i) (some p)->GB (some it) w w'->K (.tuple #[.bool true,.int .u32 p.1,p.2]) w'
 |_=>False
def ZM:Option Value->Prop
 |some (.pointer (some ⟨it,0,none⟩))=>∃m l todo p,nE w it m l todo (some p)/\K (.tuple #[.int .u32 p.1,p.2]) w
 |_=>False
noncomputable def O9[ko P]:Op->Prop
 |.range t x=>ZK E w K t (ev s x)
 |.next x false=>ZL w K (ev s x)
 |.entry x=>ZM w K (ev s x)
 |.load t x=>yw E w K t (ev s x)
 |.store t x y=>Zy E w K t (ev s x) (ev s y)
 |.box t x=>match ev s x,E.T.get t with
  |some v,some _=>QZ w K (.cells v.cells t) λb=>.pointer (some ⟨b,0,none⟩)
  |_,_=>False
 |.alloc t=>match E.T.get t with
  |some _=>QZ w K (.cells (zc E.T t).toArray t) λb=>.pointer (some ⟨b,0,none⟩)
  |_=>False
 |.buildSlice t n ps=>match E.T.get t,J3 (ev s) ps.toList with
  |some (.l e),some vs=>match E.T.get e,wU ((List.range n).map λi=>(i*bD E.T e,bD E.T e)) ((List.range (n*bD E.T e)).map λi=>(zc E.T e).getD (i%bD E.T e) undef) vs with
   |some _,some cs=>iB (Nat.ble (n*bD E.T e) 1000 && Nat.blt 0 (bD E.T e)) (QZ w K (.cells cs.toArray e) λb=>.slice (some ⟨b,0,none⟩) n n) False
   |_,_=>False
  |_,_=>False
 |.convert t t' x=>ZF E w K t t' (ev s x)
 |.makeSlice t x y=>ZG E w K t (ev s x) (ev s y)
 |.makeMap t none=>match ze E t with
  |some _=>∀w' b,fP w' b (λ_=>none)->GB none w w'->w.heap.size<=b->K (.map (some b)) w'
  |none=>False
 |.lookup t x y ok=>Ig E w K t ok (ev s x) (ev s y)
 |.mapUpdate t x y z=>ZH E w K t (ev s x) (ev s y) (ev s z)
 |.call { callee:=.value f,args,.. }=>Zz E w K (ev s f) (Ib (ev s) args.toList)
 |.call { callee:=.builtin b,args,argTypes }=>match b,args.toList,argTypes.toList with
  |.append,[x,y],[t,t']=>iB (Nat.beq t t') (ZA E w K t (ev s x) (ev s y)) (ZB E w K t t' (ev s x) (ev s y))
  |.copy,[x,y],[t,_t']=>ZC E w K t (ev s x) (ev s y)
  |.delete,[x,y],[t,t']=>ZI E w K t t' (ev s x) (ev s y)
  |.clear,[x],[t]=>match E.T.get t with
   |some (.l e)=>ZE E w K e (ev s x)
   |_=>ZJ E w K t (ev s x)
  |_,_,_=>False
 |_=>False
noncomputable def Nb[ko P](o:Oper):Prop:=match iL E.T (ev s) o.op with
 |.v x=>K x w
 |.c p x=>p/\K x w
 |.d p x y=>(p/\K x w)\/K y w
 |.no=>O9 E s w K o.op
end
end
