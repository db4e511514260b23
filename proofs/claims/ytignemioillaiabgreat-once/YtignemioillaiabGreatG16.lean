/- Lemmas. -/
import Derived.Laws.CopyOwn
import Derived.Laws.BytesString
import Derived.Laws.MakeOwn
import Derived.Test.YtignemioillaiabGreatG15
namespace Go.Proofs.YtignemioillaiabGreat
set_option maxHeartbeats 8000000
set_option maxRecDepth 100000
open List
section
open Go Go.Conc Go.RowKit
theorem Tm{P:Program}(w:World)(dT sT ty elem:TypeId)(size g off dLen dCap:Nat)(a:Addr)(sLen sCap:Nat)(cur:List Value)(t:TypeId)(cs:List Value)
 (hu:P.underlying dT=some (.slice elem)) (hs:(P.info? elem).map (·.size)=some size)
 (hg:w.heap[g]?=some (.cells cur.toArray t)) (hn:cs.length=Nat.min sLen dLen*size)
 (hsrc:∀j v,cs[j]?=some v->w.cell? (a.add j)=some v) (hfit:off+cs.length<=cur.length) (h1:∀v∈cs,v.oneCell'=true) :
 (Builtin.copy_ #[dT,sT] ty #[.slice (some ⟨g,off,none⟩) dLen dCap,.slice (some a) sLen sCap]).run P w =
  .ok (goInt (Nat.min sLen dLen)) (w.setRow g (splice cur off cs).toArray):=by
 have hl:=run_loadCells_list (P:=P) w a cs hsrc;have hst:=run_storeCells_at P g off t cs 0 cur.toArray w hg (by simpa using hfit) h1;cases hq:P.info? elem with
 |none=>simp[hq]at hs
 |some i =>
  have hi:i.size=size:=by simpa[hq]using hs
  simp[Builtin.copy_,run_underlying hu,Builtin.lenOf,Builtin.firstCells,sizeOf,typeInfo,hq,hi,<-hn,hl,hst,splice]
theorem QM{P:Program}(w:World)(t ty e:TypeId)(i:TypeInfo)(z:Value)(ht:P.underlying t=some (.slice e))(hi:P.info? e=some i)(hz:i.zero=some z)(hzs:z.cells.size=i.size)(h1:∀v∈z.cells,v.oneCell'=true)
 (g off n c:Nat) (hn:0<n) (cur:List Value) (t':TypeId) (hg:w.heap[g]?=some (.cells cur.toArray t')) (hfit:off+n*i.size<=cur.length) :
 ∃zs:List Value,zs.length=n*i.size/\(Builtin.clear_ #[t] ty #[.slice (some ⟨g,off,none⟩) n c]).run P w=.ok (.tuple #[]) (w.setRow g (splice cur off zs).toArray):=by
 have hzl:(Builtin.zeroCells z.cells n).toList.length=n*i.size:=by rw[Array.length_toList,size_zeroCells,hzs]
 refine⟨(Builtin.zeroCells z.cells n).toList,hzl,?_⟩;have hone:∀v∈(Builtin.zeroCells z.cells n).toList,v.oneCell'=true:=by
  intro v hv;simp only[Builtin.zeroCells,Jf0,Jdb]at hv;obtain⟨j,hj,rfl⟩:=hv;have hp:0<z.cells.size:=by
   rcases Nat.eq_zero_or_pos z.cells.size with h|h
   .simp[h]at hj
   .exact h
  rw[getElem!_pos z.cells (j%z.cells.size) (Nat.mod_lt _ hp)];exact h1 _ (Array.getElem_mem _)
 have hst:=run_storeCells_at P g off t' (Builtin.zeroCells z.cells n).toList 0 cur.toArray w hg (by rw[hzl];simpa using hfit) hone;obtain⟨k,rfl⟩:∃k,n=k+1:=⟨n-1,by omega⟩;simp[Builtin.clear_,run_underlying ht,zeroValue,typeInfo,hi,hz,hst,splice]
theorem Tn{P:Program}(w:World)(t tn ty e:TypeId)(i:TypeInfo)(z:Value)(k kn:IntKind)(ht:P.underlying t=some (.slice e))(htn:P.underlying tn=some (.int kn))(hi:P.info? e=some i)(hz:i.zero=some z)(hzs:z.cells.size=i.size)
 (v:Value) (n:Nat) (xs:List Value) (hown:w.ownsRow 0 e i.size v n xs) (m:Nat) (h0:0<m) (hs:0<i.size) (hv:∀a c,v=.slice a n c->c<n+m) (hb:(n+m)*i.bytes<=140737488355328) (h63:n+m<=maxLen) :
 ∃b cap cur w',(Builtin.append_ #[t,tn] ty #[v,.int k m]).run P w=.ok (.slice (some ⟨b,0,none⟩) (n+m) cap) w'/\w'.heap[b]?=some (.cells cur e)/\cur.size=cap*i.size/\cur.toList.take (n*i.size)=xs/\n+m<=cap/\cap<=maxLen/\GB none w w'/\w.heap.size<=b:=by
 have hmx:n+m<=9223372036854775807:=by simpa[maxLen]using h63
 have hm:m≠0:=by omega
 have hw:IntKind.i64.wrap (m:Int)=m:=by rw[IntKind.wrap_i64];omega
 have hneg:¬((m:Int)<0):=by omega
 have hns:¬(m*i.size=0):=Nat.mul_ne_zero hm (by omega);have h48i:¬(281474976710656<(m:Int)*(i.bytes:Int)):=by
  rw[<-Jf4];have:m*i.bytes<=(n+m)*i.bytes:=Jcr _ (by omega);omega
 have gal:∀(o:Obj),GB none w (w.drew.alloc o):=λo=>⟨rfl,rfl,by simp,λx hx _=>heap_alloc_old w.drew _ (show x<w.drew.heap.size from hx)⟩
 have key:∀(sCap:Nat),sCap<n+m->∀cs:Array Value,cs=xs.toArray++Builtin.zeroCells z.cells m++Builtin.zeroCells z.cells (grownCap w (n+m) sCap e-(n+m))->(Builtin.append_ #[t,tn] ty #[v,.int k m]).run P w=.ok (.slice (some ⟨w.heap.size,0,none⟩) (n+m) (grownCap w (n+m) sCap e)) (w.drew.alloc (.cells cs e))->∃b cap cur w',(Builtin.append_ #[t,tn] ty #[v,.int k m]).run P w=.ok (.slice (some ⟨b,0,none⟩) (n+m) cap) w'/\w'.heap[b]?=some (.cells cur e)/\cur.size=cap*i.size/\cur.toList.take (n*i.size)=xs/\n+m<=cap/\cap<=maxLen/\GB none w w'/\w.heap.size<=b:=λsCap hc cs hcs hr=>by
  have hge:=grownCap_ge w (n+m) sCap e;refine⟨_,_,_,_,hr,heap_alloc_new w.drew _,?_,?_,hge,grownCap_le_maxLen w (n+m) sCap e h63,gal _,Jb0 _⟩
  .subst hcs
   simp only[Array.size_append,Jf5,size_zeroCells,hzs,hown.1,<-Nat.add_mul];congr 1
   omega
  .subst hcs
   simp only[Array.toList_append,Jd4];rw[<-hown.1];exact take_left
 have h63':¬(9223372036854775807<((n:Int)+(m:Int))):=by omega
 rcases hown.2 with⟨rfl,rfl⟩|⟨g,cap,cur,rfl,_,hg,hnc,hcm,hcs,htake⟩
 .have hx:xs=[]:=Jcq (by simpa using hown.1)
  subst hx;have h48':¬(281474976710656<Builtin.nextslicecap (0+m) 0*i.bytes):=by have:=growslice_fits (need:=0+m) (old:=0) (by omega) hb;omega
  refine key 0 (by omega) _ rfl ?_;simp only[Jbh]at h48' h63' |-;simp[Builtin.append_,run_underlying ht,run_underlying htn,sizeOf,typeInfo,zeroValue,hi,hz,asInt,asIntOf,hw,hm,hneg,hns,h48',h48i,Question.forced,newRow,grownCap,Builtin.firstCells,Builtin.lenOf];omega
 .have hc:=hv _ _ rfl
  have hn:¬(n+m<=cap):=by omega
  have h48':¬(281474976710656<Builtin.nextslicecap (n+m) cap*i.bytes):=by have:=growslice_fits hc hb;omega
  have hfo:=run_firstCells_some (P:=P) w.drew i.size n ⟨g,0,none⟩ n cap xs hown.1 (by have:=hown.cells (g:=g) rfl;simpa using this);refine key cap hc _ rfl ?_;simp[Builtin.append_,run_underlying ht,run_underlying htn,sizeOf,typeInfo,zeroValue,hi,hz,asInt,asIntOf,hw,hn,hneg,hns,h63',h48',h48i,Question.forced,hfo,newRow,grownCap]
def uX(l:List Int):ByteArray:=l.foldl (λr n=>r.push (UInt8.ofNat n.toNat)) ByteArray.empty
theorem Wh{P:Program}{w:World}{v:Value}{n e:Nat}{l:List Int}(src dst:TypeId)(hs:P.underlying src=some (.slice e))(he:P.underlying e=some (.int .u8))(hd:P.underlying dst=some .string)(hown:w.ownsRow 0 e 1 v n (l.map λb=>.int .u8 b)) :
 (convert src dst v).run P w=.ok (.string (uX l)) w:=by
 have hn:l.length=n:=by have:=hown.1;simpa using this
 rcases hown.2 with⟨rfl,h0⟩|⟨g,cap,cur,rfl,_,hgg,_,_,_,_⟩
 .have hl:l=[]:=Jcq (by omega)
  subst hl;rw[run_convert_bytes_string w src dst e none 0 0 hs he hd];rfl
 .rw[run_convert_bytes_string w src dst e _ _ _ hs he hd]
  refine run_bytesToString w _ _ _ l ?_;have:=run_loadCells_list (P:=P) w ⟨g,0,none⟩ (l.map λb=>.int .u8 b) (World.ownsRow.cells hown (g:=g) rfl);rw[Jf6,hn]at this;exact this
end
section
open Go Go.Conc
def aK(P:Program)(s:Sem Next)(w:World):Prop:=(∀e∈s.events P w #[],nK e)/\gp w (KH (s.run P w))
theorem aK.plain{P:Program}{s:Sem Next}(h:Plain [] s)(w:World):aK P s w:=Qm h w
theorem aK.quiet{P:Program}{s:Sem Next}{a:Next}(h:aV P s=some a)(w:World):aK P s w:=by
 refine⟨λe he=>?_,?_⟩
 .rw[Jq h]at he;simp at he
 .rw[ja h];exact gp.refl _
class kD(P:Program) where
 ca:FuncId->Array Value->World->(Value->World->Prop)->Prop
 same:∀{f:FuncId} {args:Array Value} {w w₁:World} {Post:Value->World->Prop},ca f args w Post->cO w w₁->ca f args w₁ Post
 Φ:Bool->(World->World->Array Event->Prop)->(Goroutine->World->Prop)->Prop
 serve:∀{main:Bool} {D:World->World->Array Event->Prop} {X:Goroutine->World->Prop},Shut P main D X->Φ main D X->∀{f:FuncId} {args:Array Value} {w:World} {Post:Value->World->Prop} {cF:Frame} {cs:List Frame},ca f args w Post->(∀v w',Post v w'->X (G (cF.finish v) cs) w')->X (G (Frame.enter P f args .normal) (cF::cs)) w
structure SX(P:Program)[kD P](main:Bool)(D:World->World->Array Event->Prop)(X:Goroutine->World->Prop):Prop extends Shut P main D X where
 phi:kD.Φ P main D X
instance ajK(P:Program):kD P:=⟨gU P,λh hs=>h.same hs,λ_ _ _=>True,λhX _=>λh hk=>h _ _ _ _ hX λ_ v w' _ hl hp=>hX.back hl (hk v w' hp)⟩
def iG(P:Program)[kD P](o:Oper)(r:Operand->Value)(w:World)(K:Value->World->Prop):Prop :=
 (∀w₁,cO w w₁->aK P (execOp r o) w₁/\∃v w',((execOp r o).run P w₁=.ok (.value v) w'\/((execOp r o).run P w₁=.ok .skip w'/\v=undef))/\K v w') \/
 (∃f args Post,(∀w,(execOp r o).run P w=.ok (.enter f args) w)/\(∀w,(execOp r o).events P w #[]=#[])/\kD.ca P f args w Post/\∀v w',Post v w'->K v w')
section
variable{P:Program}[kD P]{main:Bool}{D:World->World->Array Event->Prop}{X:Goroutine->World->Prop}{b:Frame}{k:List Item}{cs:List Frame}{ops:Array Oper}{w:World}{o:Oper}{r:Operand->Value}{K:Value->World->Prop}
theorem iG.go(hX:SX P main D X){i:Nat}{rest:List Nat}{a:Act}(ho:ops[i]?=some o)(hw:Region.wanted o (yielded ops a.tmps)=true)(hk:b.kind≠.early)(h:iG P o a.eval w K)(hK:∀v w',K v w'->X (G (b.at (a.put o.dst v) (.inRegion ops rest::k)) cs) w'):X (G (b.at a (.inRegion ops (i::rest)::k)) cs) w:=by
 rcases h with h|⟨f,args,Post,h1,h2,h3,h4⟩
 .refine hX.step rfl λw₁ h1=>?_
  obtain⟨⟨hev,hch⟩,v,w',hr,hx⟩:=h w₁ h1;have Qw:∀e∈listed P b.fn a o w₁,nK e:=λe he=>hev e (wK _ _ _ e he)
  rcases hr with hr|⟨hr,rfl⟩
  .rw[stepG_value ho hw hk hr,goes_go]
   rw[hr]at hch;exact⟨hX.plain ⟨Qw,hch⟩,hK _ _ hx⟩
  .rw[stepG_none ho hw hk hr,goes_go]
   rw[hr]at hch;exact⟨hX.plain ⟨Qw,hch⟩,hK _ _ hx⟩
 .refine aH.enter hX.c ho hw hk h1 h2 (kD.serve hX.toShut hX.phi h3 λv w' hp=>?_)
  rw[Frame.finish_at,ho];exact hK _ _ (h4 v w' hp)
theorem iG.mono{K':Value->World->Prop}(h:iG P o r w K)(hk:∀v w,K v w->K' v w):iG P o r w K':=by
 rcases h with h|⟨f,args,Post,h1,h2,h3,h4⟩
 .exact .inl λw₁ hs=>⟨(h w₁ hs).1,by obtain⟨v,w',e1,e2⟩:=(h w₁ hs).2;exact⟨v,w',e1,hk _ _ e2⟩⟩
 .exact .inr ⟨f,args,Post,h1,h2,h3,λv w' hp=>hk _ _ (h4 v w' hp)⟩
theorem iG.same{w₁:World}(h:iG P o r w K)(hs:cO w w₁):iG P o r w₁ K:=by
 rcases h with h|⟨f,args,Post,h1,h2,h3,h4⟩
 .exact .inl λw₂ h2=>h w₂ (jS _ _ _ hs h2)
 .exact .inr ⟨f,args,Post,h1,h2,kD.same h3 hs,h4⟩
end
def iH(c:Bool)(A B:Prop):Prop:=match c with
 |true=>A
 |false=>B
def callable(P:Program)(g:Nat):Bool:=match P.funcs[g]? with
 | some fn => !(fn.name == "runtime.NumGoroutine") && !fn.body.isNone
 |none=>false
structure ng(P:Program) where
 T:jg
 fok:Nat->Bool
 tab:OE P T
 fns:∀g,fok g=true->callable P g=true
 Tp:Nat->Nat×Nat
def one(v:Value):Bool:=match v with
 |.agg _=>false
 |.tuple _=>false
 |_=>true
theorem one_cell{v:Value}(h:one v=true):v.oneCell'=true:=by cases v<;>first|rfl|cases h
def Ce(xs:List Value)(off n:Nat)(v:Value):Bool:=Nat.beq v.cells.toList.length n&&v.cells.toList.all one&&Nat.ble (off+n) xs.length
structure OG(a:Option Addr)(n c m:Nat)(w:World)(v':Value):Prop where
 own:∀g,v'.ownBlock=some g->(Value.slice a n c).ownBlock=some g\/w.heap.size<=g
 inp:∀g,a=some ⟨g,0,none⟩->n+m<=c->v'=.slice a (n+m) c
instance{a:Option Addr}{n c m:Nat}{w:World}{v':Value}:CoeFun (OG a n c m w v') (λ_=>∀g,v'.ownBlock=some g->(Value.slice a n c).ownBlock=some g\/w.heap.size<=g):=⟨OG.own⟩
instance{a:Option Addr}{n c m:Nat}{w:World}{v':Value}:CoeOut (OG a n c m w v') (∀g,v'.ownBlock=some g->(Value.slice a n c).ownBlock=some g\/w.heap.size<=g):=⟨OG.own⟩
section
variable{P:Program}(E:ng P)(s:Sg)(w:World)(K:Value->World->Prop)
noncomputable def ze(t:Nat):Option Value->Prop
 |some (.pointer (some ⟨b,off,none⟩))=>match E.T.get t with
  |some y=>∃xs ty,w.heap[b]?=some (.cells xs ty (E.Tp b))/\iH (kQ y) (iH (Nat.beq (bD E.T t) 0) False (∃c,aG xs.toList off (bD E.T t)=c/\c.length=bD E.T t/\K (.agg c.toArray) w)) (∃v,xs.toList[off]?=some v/\K v w)
  |none=>False
 |_=>False
noncomputable def stW(t:Nat):Option Value->Option Value->Prop
 |some (.pointer (some ⟨b,off,none⟩)),some v=>match E.T.get t with
  |some _=>∃xs ty ys,w.heap[b]?=some (.cells xs ty)/\Ce xs.toList off (bD E.T t) v=true/\xs.toList.take off++v.cells.toList++xs.toList.drop (off+bD E.T t)=ys/\∀w',w'.heap[b]?=some (.cells ys.toArray ty)->GB (some b) w w'->K undef w'
  |none=>False
 |_,_=>False
def Tq(o:Obj)(v:Nat->Value):Prop:=∀w' b,w'.heap[b]?=some o->GB none w w'->w.heap.size<=b->K (v b) w'
noncomputable def caW[kD P]:Option Value->Option (List Value)->Prop
 |some (.func (.func g) fs cs),some vs=>iH (E.fok g) (∃Post,kD.ca P g ((fs++vs.toArray)++cs) w Post/\∀v w',Post v w'->K v w') (∃v,∀w₁,cO w w₁->(aK P (callFunc g ((fs++vs.toArray)++cs)) w₁/\(callFunc g ((fs++vs.toArray)++cs)).run P w₁=.ok (.value v) w₁)/\K v w₁)
 |_,_=>False
def LC(size:Nat)(m:Nat)(news:List Value):Option Addr->Prop
 |some ⟨B,off,none⟩=>∃nb tb,w.heap[B]?=some (.cells nb tb)/\aG nb.toList off (m*size)=news/\news.length=m*size/\news.all one=true
 |_=>False
noncomputable def apW(t:Nat):Option Value->Option Value->Prop
 |some (.slice a n c),some (.slice none 0 _)=>match E.T.get t with
  |some (.l e)=>match E.T.get e with
   |some _=>n<=c/\K (.slice a n c) w
   |none=>False
  |_=>False
 |some (.slice a n c),some (.slice (some ad) m _)=>match E.T.get t with
  |some (.l e)=>match E.T.get e with
   |some _=>iH (Nat.beq (bD E.T e) 0) False <| ∃xs news,w.ownsRow 0 e (bD E.T e) (.slice a n c) n xs/\LC w (bD E.T e) m news (some ad)/\n+m<=1000000000/\∀v' w',w'.ownsRow 0 e (bD E.T e) v' (n+m) (xs++news)->GB (Value.slice a n c).ownBlock w w'->OG a n c m w v'->K v' w'
   |none=>False
  |_=>False
 |_,_=>False
noncomputable def azW(t tn:Nat):Option Value->Option Value->Prop
 |some (.slice a n c),some (.int _ m)=>match E.T.get t,E.T.get tn with
  |some (.l e),some (.i _)=>match E.T.get e with
   |some _=>iH (Nat.beq (bD E.T e) 0) False <| ∃xs,w.ownsRow 0 e (bD E.T e) (.slice a n c) n xs/\0<m/\(c:Int)<n+m/\(n:Int)+m<=1000000000/\∀b cap cur w',w'.heap[b]?=some (.cells cur e)->cur.size=cap*bD E.T e->cur.toList.take (n*bD E.T e)=xs->n+m.toNat<=cap->cap<=maxLen->GB none w w'->w.heap.size<=b->K (.slice (some ⟨b,0,none⟩) (n+m.toNat) cap) w'
   |none=>False
  |_,_=>False
 |_,_=>False
noncomputable def cpW(t:Nat):Option Value->Option Value->Prop
 |some (.slice (some ⟨g,off,none⟩) n _),some (.slice (some ad) m _)=>match E.T.get t with
  |some (.l e)=>match E.T.get e with
   |some _=>∃cur te news,w.heap[g]?=some (.cells cur te)/\LC w (bD E.T e) (Nat.min m n) news (some ad)/\off+news.length<=cur.size/\∀w',w'.heap[g]?=some (.cells (cur.toList.take off++news++cur.toList.drop (off+news.length)).toArray te)->GB (some g) w w'->K (.int .i64 (Nat.min m n)) w'
   |none=>False
  |_=>False
 |_,_=>False
noncomputable def csW(e:Nat):Option Value->Prop
 |some (.slice (some ⟨g,off,none⟩) n _)=>match E.T.get e with
  |some _=>iH ((zc E.T e).all one) (0<n/\∃cur te,w.heap[g]?=some (.cells cur te)/\off+n*bD E.T e<=cur.size/\∀zs w',zs.length=n*bD E.T e->w'.heap[g]?=some (.cells (cur.toList.take off++zs++cur.toList.drop (off+zs.length)).toArray te)->GB (some g) w w'->K (.tuple #[]) w') False
  |none=>False
 |_=>False
noncomputable def cvW(t t':Nat):Option Value->Prop
 |some (.slice a n c)=>match E.T.get t,E.T.get t' with
  |some (.l e),some .t=>match E.T.get e with
   |some (.i .u8)=>∃l:List Int,w.ownsRow 0 e 1 (.slice a n c) n (l.map λb=>.int .u8 b)/\K (.string (uX l)) w
   |_=>False
  |_,_=>False
 |_=>False
noncomputable def msW(t:Nat):Option Value->Option Value->Prop
 |some (.int _ i),some (.int _ j)=>match E.T.get t with
  |some (.l e)=>match E.T.get e with
   |some _=>i=j/\0<=i/\i<=1000/\Tq w K (.cells ((List.range (i.toNat*bD E.T e)).map λq=>(zc E.T e).getD (q%bD E.T e) undef).toArray e) λb=>.slice (some ⟨b,0,none⟩) i.toNat i.toNat
   |none=>False
  |_=>False
 |_,_=>False
noncomputable def zX(t:Nat):Option (Nat×Nat):=match E.T.get t with
 |some (.m key e)=>match E.T.get key,E.T.get e with
  |some (.i .u32),some _=>some (key,e)
  |_,_=>none
 |_=>none
noncomputable def Jt(t:Nat)(ok:Bool):Option Value->Option Value->Prop
 |some (.map (some m)),some (.int .u32 n)=>match zX E t with
  |some (_,e)=>∃f,fZ w m f/\K (bif ok then .tuple #[(f n).getD (zv E.T e ((E.T.get e).getD .p)),.bool (f n).isSome]else(f n).getD (zv E.T e ((E.T.get e).getD .p))) w
  |none=>False
 |_,_=>False
noncomputable def muW(t:Nat):Option Value->Option Value->Option Value->Prop
 |some (.map (some m)),some (.int .u32 n),some v=>match zX E t with
  |some _=>∃f,fZ w m f/\∀w',fZ w' m (qM f n (some v))->GB (some m) w w'->K undef w'
  |none=>False
 |_,_,_=>False
noncomputable def mdW(t t':Nat):Option Value->Option Value->Prop
 |some (.map (some m)),some (.int .u32 n)=>match zX E t with
  |some (key,_)=>iH (Nat.beq key t') (∃f,fZ w m f/\∀w',fZ w' m (qM f n none)->GB (some m) w w'->K (.tuple #[]) w') False
  |none=>False
 |_,_=>False
noncomputable def mcW(t:Nat):Option Value->Prop
 |some (.map (some m))=>match zX E t with
  |some _=>∃f,fZ w m f/\∀w',fZ w' m (λ_=>none)->GB (some m) w w'->K (.tuple #[]) w'
  |none=>False
 |_=>False
noncomputable def rgW(t:Nat):Option Value->Prop
 |some (.map (some m))=>match zX E t with
  |some _=>∃l,mH w m l/\∀w' b,nS w' b m l l none->GB none w w'->w.heap.size<=b->K (.pointer (some ⟨b,0,none⟩)) w'
  |none=>False
 |_=>False
def nxW:Option Value->Prop
 |some (.pointer (some ⟨it,0,none⟩))=>∃m l todo cur,nS w it m l todo cur/\(todo=[]->K (.tuple #[.bool false]) w)/\∀i p w',todo[i]?=some p->nS w' it m l (todo.eraseIdx i) (some p)->GB (some it) w w'->K (.tuple #[.bool true,.int .u32 p.1,p.2]) w'
 |_=>False
def enW:Option Value->Prop
 |some (.pointer (some ⟨it,0,none⟩))=>∃m l todo p,nS w it m l todo (some p)/\K (.tuple #[.int .u32 p.1,p.2]) w
 |_=>False
noncomputable def QO[kD P]:Op->Prop
 |.range t x=>rgW E w K t (ev s x)
 |.next x false=>nxW w K (ev s x)
 |.entry x=>enW w K (ev s x)
 |.load t x=>ze E w K t (ev s x)
 |.store t x y=>stW E w K t (ev s x) (ev s y)
 |.box t x=>match ev s x,E.T.get t with
  |some v,some _=>Tq w K (.cells v.cells t) λb=>.pointer (some ⟨b,0,none⟩)
  |_,_=>False
 |.alloc t=>match E.T.get t with
  |some _=>Tq w K (.cells (zc E.T t).toArray t) λb=>.pointer (some ⟨b,0,none⟩)
  |_=>False
 |.buildSlice t n ps=>match E.T.get t,Lx (ev s) ps.toList with
  |some (.l e),some vs=>match E.T.get e,xI ((List.range n).map λi=>(i*bD E.T e,bD E.T e)) ((List.range (n*bD E.T e)).map λi=>(zc E.T e).getD (i%bD E.T e) undef) vs with
   |some _,some cs=>iH (Nat.ble (n*bD E.T e) 1000&&Nat.blt 0 (bD E.T e)) (Tq w K (.cells cs.toArray e) λb=>.slice (some ⟨b,0,none⟩) n n) False
   |_,_=>False
  |_,_=>False
 |.convert t t' x=>cvW E w K t t' (ev s x)
 |.makeSlice t x y=>msW E w K t (ev s x) (ev s y)
 |.makeMap t none=>match zX E t with
  |some _=>∀w' b,fZ w' b (λ_=>none)->GB none w w'->w.heap.size<=b->K (.map (some b)) w'
  |none=>False
 |.lookup t x y ok=>Jt E w K t ok (ev s x) (ev s y)
 |.mapUpdate t x y z=>muW E w K t (ev s x) (ev s y) (ev s z)
 |.call {callee:=.value f,args,.. }=>caW E w K (ev s f) (Jr (ev s) args.toList)
 |.call {callee:=.builtin b,args,argTypes}=>match b,args.toList,argTypes.toList with
  |.append,[x,y],[t,t']=>iH (Nat.beq t t') (apW E w K t (ev s x) (ev s y)) (azW E w K t t' (ev s x) (ev s y))
  |.copy,[x,y],[t,_t']=>cpW E w K t (ev s x) (ev s y)
  |.delete,[x,y],[t,t']=>mdW E w K t t' (ev s x) (ev s y)
  |.clear,[x],[t]=>match E.T.get t with
   |some (.l e)=>csW E w K e (ev s x)
   |_=>mcW E w K t (ev s x)
  |_,_,_=>False
 |_=>False
noncomputable def OH[kD P](o:Oper):Prop:=match iT E.T (ev s) o.op with
 |.v x=>K x w
 |.c p x=>p/\K x w
 |.d p x y=>(p/\K x w)\/K y w
 |.no=>QO E s w K o.op
end
end
