/- Lemmas. -/
import Derived.Test.YtignemioillaiabGreatG04
import Derived.Conc.Events
import Derived.Calls
import Derived.Conc.Beside
namespace Go.Proofs.YtignemioillaiabGreat
set_option maxHeartbeats 8000000
set_option maxRecDepth 100000
open List
section
open Go
def iw{α:Type}(Q:α->Prop):Sem α->Prop
 |.pure a=>Q a
 |.load _ _ k=>∀v,iw Q (k v)
 |.store _ _ _ k=>iw Q k
 |.new _ k=>∀r,iw Q (k r)
 |.shape _ k=>∀r,iw Q (k r)
 |.freeze _ _ k=>iw Q k
 |.frozen _ k=>∀b,iw Q (k b)
 |.getObj _ k=>∀o,iw Q (k o)
 |.setObj _ _ k=>iw Q k
 |.choose _ k=>∀n,iw Q (k n)
 |.sys _ k=>∀r,iw Q (k r)
 |.program k=>∀p,iw Q (k p)
 |.mark _ k=>iw Q k
 |.halt _=>True
theorem iw.bind{α β:Type}{Q:β->Prop}{f:α->Sem β}(hf:∀a,iw Q (f a))(s:Sem α):iw Q (s>>=f):=by
 show iw Q (s.bind f);induction s with
 |pure a=>exact hf a
 |load m a k ih=>exact λv=>ih v
 |store m a v k ih=>exact ih
 |new o k ih=>exact λr=>ih r
 |shape r k ih=>exact λv=>ih v
 |freeze a n k ih=>exact ih
 |frozen a k ih=>exact λv=>ih v
 |getObj r k ih=>exact λv=>ih v
 |setObj r o k ih=>exact ih
 |choose q k ih=>exact λv=>ih v
 |sys c k ih=>exact λv=>ih v
 |program k ih=>exact λv=>ih v
 |mark m k ih=>exact ih
 |halt x=>exact trivial
def aef{α:Type}(Q:α->Prop):Result α->Prop
 |.ok a _=>Q a
 |.halt h _=>FC h
theorem Qi(p:Program)(w:World)(a:Addr)(b:Bool){h:Halt}(e:w.farLoad p a b=.error h):FC h:=by
 unfold World.farLoad at e;split at e
 .split at e
  .cases e
  .cases e;exact trivial
 .cases e
  unfold World.noCell;split<;>exact trivial
theorem NN(p:Program)(w:World)(a:Addr)(v:Value)(b:Bool){h:Halt}(e:w.farStore p a v b=.error h):FC h:=by
 unfold World.farStore at e;split at e
 .split at e
  .cases e
  .cases e;exact trivial
 .cases e
  unfold World.noCell;split<;>exact trivial
def nK(e:Event):Prop:=e.loc≠.mark .disable/\e.loc≠.mark .enable
theorem FZ{α:Type}{Q:α->Prop}(p:Program)(s:Sem α):∀{kn:List Nat} (w:World) (es:Array Event),Plain kn s->iw Q s->aef Q (s.runT p w es).1/\((∀e∈es,nK e)->∀e∈(s.runT p w es).2,nK e):=by
 have cell:∀(es:Array Event) (a:Addr) (b c:Bool),(∀e∈es,nK e)->∀e∈es.push ⟨.cell a,b,c⟩,nK e:=by
  intro es a b c h e he;rcases Array.mem_push.1 he with he|rfl
  .exact h e he
  .exact⟨by simp,by simp⟩
 have cells:∀(es:Array Event) (l:List Addr) (b c:Bool),(∀e∈es,nK e)->∀e∈es++l.toArray.map (⟨.cell ·,b,c⟩),nK e:=by
  intro es l b c h e he;rcases Array.mem_append.1 he with he|he
  .exact h e he
  .obtain⟨a,_,rfl⟩:=Array.mem_map.1 he
   exact⟨by simp,by simp⟩
 have obj:∀(es:Array Event) (r:Nat) (b c:Bool),(∀e∈es,nK e)->∀e∈es.push ⟨.obj r,b,c⟩,nK e:=by
  intro es a b c h e he;rcases Array.mem_push.1 he with he|rfl
  .exact h e he
  .exact⟨by simp,by simp⟩
 induction s with
 |pure a=>exact λw es _ h=>⟨h,id⟩
 |load m a k ih =>
  intro kn w es hp hl;simp only[Sem.runT];split
  .exact⟨(ih _ w _ (hp _) (hl _)).1,λh=>(ih _ w _ (hp _) (hl _)).2 (cell _ _ _ _ h)⟩
  .split
   .exact⟨(ih _ w _ (hp _) (hl _)).1,λh=>(ih _ w _ (hp _) (hl _)).2 (cells _ _ _ _ h)⟩
   .rename_i e
    exact⟨Qi p w a _ e,id⟩
 |store m a v k ih =>
  intro kn w es hp hl;cases v<;>simp only[Sem.runT]<;>first|exact⟨trivial,id⟩|skip
  all_goals
   split
   .split
    .exact⟨trivial,id⟩
    .exact⟨(ih (w.setCell a _) _ hp hl).1,λh=>(ih (w.setCell a _) _ hp hl).2 (cell _ _ _ _ h)⟩
   .split
    .exact⟨(ih _ _ hp hl).1,λh=>(ih _ _ hp hl).2 (cells _ _ _ _ h)⟩
    .rename_i e
     exact⟨NN p w a _ _ e,id⟩
 |new o k ih=>exact λw es hp hl=>ih _ _ es (hp.2 _) (hl _)
 |shape r k ih=>exact λw es hp hl=>ih _ _ es (hp _) (hl _)
 |freeze a n k ih=>exact λw es hp hl=>ih _ es hp hl
 |frozen a k ih=>exact λw es hp hl=>ih _ _ es (hp _) (hl _)
 |getObj r k ih =>
  intro kn w es hp hl;simp only[Sem.runT];split
  .exact⟨trivial,id⟩
  .exact⟨(ih _ w _ (hp _) (hl _)).1,λh=>(ih _ w _ (hp _) (hl _)).2 (obj _ _ _ _ h)⟩
  .exact⟨trivial,id⟩
 |setObj r o k ih =>
  intro kn w es hp hl;simp only[Sem.runT];split
  .exact⟨trivial,id⟩
  .exact⟨(ih _ _ hp.2.2 hl).1,λh=>(ih _ _ hp.2.2 hl).2 (obj _ _ _ _ h)⟩
  .exact⟨trivial,id⟩
 |choose q k ih =>
  intro kn w es hp hl;simp only[Sem.runT];split
  .exact ih 0 w es (hp _) (hl _)
  .exact ih _ _ es (hp _) (hl _)
 |sys c k ih=>exact λw es hp=>hp.elim
 |program k ih=>exact λw es hp hl=>ih p w es (hp _) (hl _)
 |mark m k ih =>
  intro kn w es hp hl;refine⟨(ih w _ hp.2 hl).1,λh=>(ih w _ hp.2 hl).2 λe he=>?_⟩;rcases Array.mem_push.1 he with he|rfl
  .exact h e he
  .have h0:=hp.1
   cases m<;>first|exact h0.elim|exact⟨nofun,nofun⟩
 |halt x=>exact λw es hp _=>⟨hp,id⟩
def gp(w w':World):Prop:=∀(c:Nat) (o:Obj),o.isChan=true->(w.heap[c]?=some o↔w'.heap[c]?=some o)
theorem gp.refl(w:World):gp w w:=λ_ _ _=>Iff.rfl
theorem gp.trans{a b c:World}(h:gp a b)(k:gp b c):gp a c:=λx o ho=>(h x o ho).trans (k x o ho)
theorem D9(w:World)(b:Nat)(f:Obj->Obj)(hf:∀o,if o.isChan=true then f o=o else(f o).isChan=false):gp w {w with heap:=w.heap.modify b f}:=by
 intro c o ho;show w.heap[c]?=some o↔(w.heap.modify b f)[c]?=some o;rw[Array.getElem?_modify];split
 .cases w.heap[c]? with
  |none=>simp
  |some y =>
   have h:=hf y;cases hy:y.isChan with
   |true=>rw[hy]at h;simp only[Jb8]at h;simp[h]
   |false =>
    rw[hy]at h;simp only[Jb9,Jba]at h;simp only[Jbb,Jbc];constructor
    .rintro rfl;rw[hy]at ho;cases ho
    .rintro rfl;rw[h]at ho;cases ho
 .exact Iff.rfl
theorem KP(w:World){r:Nat}{x o':Obj}(hr:w.heap[r]?=some x)(hx:x.isChan=false)(ho':o'.isChan=false):gp w {w with heap:=w.heap.setIfInBounds r o'}:=by
 intro c o ho;show w.heap[c]?=some o↔(w.heap.setIfInBounds r o')[c]?=some o;by_cases h:r=c
 .subst h
  rw[Array.getElem?_setIfInBounds_self_of_lt (Jbd.1 hr).1,hr];simp only[Jbc];constructor
  .rintro rfl;rw[hx]at ho;cases ho
  .rintro rfl;rw[ho']at ho;cases ho
 .rw[Array.getElem?_setIfInBounds_ne h]
theorem Jh(w:World){o':Obj}(ho':o'.isChan=false):gp w {w with heap:=w.heap.push o'}:=by
 intro c o ho;show w.heap[c]?=some o↔(w.heap.push o')[c]?=some o;rw[Jbf];split
 .rename_i h
  rw[Array.getElem?_eq_none (by omega)];simp only[Jbc,reduceCtorEq,false_iff];rintro rfl;rw[ho']at ho;cases ho
 .exact Iff.rfl
theorem BJ(w:World)(a:Addr)(v:Value):gp w (w.setCell a v):=by
 unfold World.setCell;refine D9 w _ _ λo=>?_
 cases o<;>rfl
theorem Ea(w:World)(a:Addr)(n:Nat):gp w (w.freeze a n):=by
 unfold World.freeze;split
 .exact gp.refl w
 .refine D9 w _ _ λo=>?_
  cases o<;>rfl
theorem seen_cells{p:Program}{w:World}{at_:Addr}{u:TypeId}{k:Addr}{b:Bool}{r:Array Value×TypeId×(Nat×Nat)×Nat×Value×List (Nat×Nat×List UInt8)}(h:w.seen p at_ u k b=.ok r):∃c e fz,w.heap[at_.block]?=some (.cells c e fz):=by
 unfold World.seen at h;simp only[bind,Except.bind,pure,Except.pure]at h;repeat' (first|(cases h;done)|split at h)
 all_goals first|exact⟨_,_,_,by assumption⟩|skip
theorem KQ(p:Program)(w:World)(a:Addr)(v:Value)(b:Bool){x:World}{l:List Addr}(h:w.farStore p a v b=.ok (x,l)):gp w x:=by
 unfold World.farStore at h;split at h
 .rename_i at_ u _
  split at h
  .rename_i r hr
   cases h
   unfold World.viewStore at hr;cases hs:w.seen p at_ u a b with
   |error e =>
    rw[hs]at hr;simp only[bind,Except.bind]at hr;split at hr<;>cases hr
   |ok r =>
    obtain⟨c1,e1,f1,hcell⟩:=seen_cells hs;have hx:∃c e f,x={w with heap:=w.heap.setIfInBounds at_.block (.cells c e f)}:=by
     rw[hs]at hr;simp only[bind,Except.bind,pure,Except.pure]at hr;repeat' (first|(cases hr;done)|split at hr)
     all_goals first|(cases hr;exact⟨_,_,_,rfl⟩)|skip
    obtain⟨c,e,f,rfl⟩:=hx;exact KP w hcell rfl rfl
  .cases h
 .cases h
theorem Qj{α:Type}(p:Program)(s:Sem α):∀{kn:List Nat} (w:World),Plain kn s->(∀r∈kn,∀o,w.heap[r]?=some o->o.isChan=false)->gp w (KH (s.run p w)):=by
 have kept:∀{kn:List Nat} {w w':World},(∀r∈kn,∀o,w.heap[r]?=some o->o.isChan=false)->gp w w'->∀r∈kn,∀o,w'.heap[r]?=some o->o.isChan=false:=by
  intro kn w w' h1 h2 r hr o ho;cases hc:o.isChan with
  |false=>rfl
  |true=>rw[h1 r hr o ((h2 r o hc).2 ho)]at hc;cases hc
 induction s with
 |pure a=>exact λw _ _=>gp.refl w
 |load m a k ih =>
  intro kn w hp hk;simp only[Sem.run];split
  .exact ih _ w (hp _) hk
  .split
   .exact ih _ w (hp _) hk
   .exact gp.refl w
 |store m a v k ih =>
  intro kn w hp hk;cases v<;>simp only[Sem.run]<;>first|exact gp.refl w|skip
  all_goals
   split
   .split
    .exact gp.refl w
    .exact(BJ w a _).trans (ih (w.setCell a _) hp (kept hk (BJ w a _)))
   .split
    .rename_i x l hx
     exact(KQ p w a _ _ hx).trans (ih x hp (kept hk (KQ p w a _ _ hx)))
    .exact gp.refl w
 |new o k ih=>exact λw hp hk=>(Jh w hp.1).trans (ih _ _ (hp.2 _) (kept hk (Jh w hp.1)))
 |shape r k ih=>exact λw hp hk=>ih _ w (hp _) hk
 |freeze a n k ih=>exact λw hp hk=>(Ea w a n).trans (ih _ hp (kept hk (Ea w a n)))
 |frozen a k ih=>exact λw hp hk=>ih _ w (hp _) hk
 |getObj r k ih =>
  intro kn w hp hk;simp only[Sem.run];split
  .exact gp.refl w
  .rename_i o hne ho
   refine ih o w (hp o) λr' hr' o' ho'=>?_
   cases o<;>first|exact hk r' hr' o' ho' | (rcases Jb3.1 hr' with rfl|hr';(rw[ho]at ho';cases ho';rfl);exact hk r' hr' o' ho')
  .exact gp.refl w
 |setObj r o k ih =>
  intro kn w hp hk;simp only[Sem.run];split
  .exact gp.refl w
  .rename_i x hne hx
   have h1:=KP w hx (hk r hp.1 x hx) hp.2.1;exact h1.trans (ih _ hp.2.2 (kept hk h1))
  .exact gp.refl w
 |choose q k ih =>
  intro kn w hp hk;simp only[Sem.run];split
  .exact ih 0 w (hp _) hk
  .show gp {w with drawn:=w.drawn+1} _
   exact ih _ {w with drawn:=w.drawn+1} (hp _) hk
 |sys c k ih=>exact λw hp=>hp.elim
 |program k ih=>exact λw hp hk=>ih p w (hp _) hk
 |mark m k ih=>exact λw hp hk=>ih w hp.2 hk
 |halt x=>exact λw _ _=>gp.refl w
theorem Iu:∀(l:List FieldStep) (t:TypeId) (x:Option Value),Plain [] (followBlind l t x):=by
 intro l;induction l with
 |nil=>intro t x;exact trivial
 |cons s l ih =>
  intro t x;unfold followBlind;repeat' (first|with_reducible apply ih|with_reducible apply az|with_reducible apply aQ|with_reducible apply aN|with_reducible apply wu|(with_reducible refine Plain.bind' ?_ λ_=>?_)|split|dsimp only)
theorem NP:∀(n:Nat) (t:TypeId) (v:Value) (s:String),Plain [] (nilAhead n t v s):=by
 intro n;induction n with
 |zero=>intro t v s;exact trivial
 |succ n ih =>
  intro t v s;unfold nilAhead;repeat' (first|with_reducible apply ih|with_reducible apply az|with_reducible apply iX|with_reducible apply aQ|with_reducible apply aN|with_reducible apply Iu|(with_reducible refine Plain.bind' ?_ λ_=>?_)|split|dsimp only)
def BK:Builtin->Bool
 |.append | .cap | .clear | .copy | .delete | .len | .max | .min=>true
 |_=>false
section
variable(A:FuncId->Bool)(S:FuncId->List Nat)
def aeg(fn:FuncId):Operand->Bool
 |.func f=>A f&&(S f).isEmpty
 |.tmp t=>(S fn).contains t
 |_=>false
def VH(fn:FuncId):Op->Bool
 |.move _ | .assign _ | .pick _ _ _ | .alloc _ | .box _ _ | .build _ _ | .buildSlice _ _ _ | .load _ _ | .store _ _ _ | .nilCheck _ | .binOp _ _ _ _ _ | .unOp _ _ _ | .convert _ _ _
 |.makeInterface _ _ | .makeFunc _ _ _ | .makeMap _ _ | .makeSlice _ _ _ | .slice _ _ _ _ _ | .fieldAddr _ _ _ | .field _ _ _ | .indexAddr _ _ _ | .index _ _ _ | .lookup _ _ _ _ | .mapUpdate _ _ _ _
 |.range _ _ | .next _ _ | .entry _ | .extract _ _ | .panic _=>true
 |.call c=>match c.callee with
  |.builtin b=>BK b
  |.value (.func f)=>A f&&(S f).all λt=>match c.args[t]? with|some x=>aeg A S fn x|none=>true
  |.value (.tmp t)=>(S fn).contains t
  |_=>false
 |_=>false
end
section
variable{A:FuncId->Bool}{S:FuncId->List Nat}
theorem EH{s:Sem Value}(h:Plain [] s):Plain [] (do pure (Next.value (<-s))):=Plain.bind' h λ_=>trivial
theorem Zg{s:Sem Unit}(h:Plain [] s):Plain [] (do s;pure Next.skip):=Plain.bind' h λ_=>trivial
def isVal(n:Next):Prop:=(∃v,n=.value v)\/n=.skip
theorem Dm{n:Next}(h:isVal n):iw isVal (pure n):=h
theorem EI(s:Sem Value):iw isVal (do pure (Next.value (<-s))):=iw.bind (λv=>Dm (.inl ⟨v,rfl⟩)) s
theorem Zh(s:Sem Unit):iw isVal (do s;pure Next.skip):=iw.bind (λ_=>Dm (.inr rfl)) s
theorem aaU{α:Type}{Q:α->Prop}:iw Q (runtimePanic RuntimeError.nilDeref:Sem α):=by
 unfold runtimePanic;refine iw.bind (λp=>?_) program;exact trivial
def KR:Op->Bool
 |.call _ | .panic _=>false
 |_=>true
theorem VI{fn:FuncId}{ρ:Operand->Value}{o:Oper}(h:VH A S fn o.op=true)(hc:KR o.op=true):Plain [] (execOp ρ o)/\iw isVal (execOp ρ o):=by
 obtain⟨dst,op,type,pos,after,guard⟩:=o;cases op<;>first|(exact absurd (show false=true from h) (by decide))|(exact absurd (show false=true from hc) (by decide))|skip
 all_goals unfold execOp
 all_goals dsimp only
 case move x=>exact⟨trivial,.inl ⟨_,rfl⟩⟩
 case assign x=>exact⟨trivial,.inl ⟨_,rfl⟩⟩
 case pick c a b=>exact⟨Plain.bind' (xx _) λ_=>trivial,iw.bind (λ_=>Dm (.inl ⟨_,rfl⟩)) _⟩
 case nilCheck x =>
  generalize ρ x=v;constructor
  .repeat' (first|with_reducible apply NP|with_reducible apply az|with_reducible apply gK|with_reducible apply eB|with_reducible apply aT|(with_reducible refine Plain.bind' ?_ λ_=>?_)|split|dsimp only)
  .repeat' (first|exact Dm (.inl ⟨_,rfl⟩)|with_reducible exact aaU|(with_reducible refine iw.bind (λ_=>?_) _)|split|dsimp only)
 all_goals first|exact⟨EH (by first|with_reducible apply Ig|with_reducible apply KJ|with_reducible apply Bo|with_reducible apply Ih|with_reducible apply FJ|with_reducible apply NM|with_reducible apply Qh|with_reducible apply yw|with_reducible apply DU|with_reducible apply EE|with_reducible apply BG|with_reducible apply ED|with_reducible apply EB|with_reducible apply Im|with_reducible apply EC|with_reducible apply Io|with_reducible apply FO|with_reducible apply Iq|with_reducible apply Kh|with_reducible apply Ir|with_reducible apply EF),EI _⟩|exact⟨Zg (by first|with_reducible apply Ez|with_reducible apply BF),Zh _⟩|exact⟨EH (Plain.bind' (Qe _ _ _ _ _ _) λ_=>VF _ _ _ _),EI _⟩
end
theorem wK(p:Program)(fn:FuncId)(es:Array Event):∀e∈seen p fn es,e∈es:=by
 have key:∀(l:List Event) (q:Bool) (acc:Array Event),(∀e∈acc,e∈es)->(∀e∈l,e∈es) ->
  ∀e∈(l.foldl (init:=(q,acc)) λ(x:Bool×Array Event) e =>
   match e.loc with
   |.mark (.extern f)=>((p.funcs[f]?).any (·.norace),x.2)
   |_=>(x.1,if x.1 && !e.sync then x.2 else x.2.push e)).2,e∈es:=by
  intro l;induction l with
  |nil=>exact λq acc h _=>h
  |cons a l ih =>
   intro q acc h hl;rw[Jbg];have h1:∀e∈acc.push a,e∈es:=by
    intro e he;rcases Array.mem_push.1 he with he|rfl
    .exact h e he
    .exact hl _ (by simp)
   have h2:∀e∈l,e∈es:=λe he=>hl e (by simp[he])
   split
   .exact ih _ _ h h2
   .dsimp only
    split
    .exact ih _ _ h h2
    .exact ih _ _ h1 h2
 intro e he;unfold seen at he;dsimp only at he;rw[<-Array.foldl_toList]at he;exact key es.toList _ #[] (by simp) (by simp) e he
section
variable(A:FuncId->Bool)(S:FuncId->List Nat)(P:Program)
end
section
variable{A:FuncId->Bool}{S:FuncId->List Nat}{P:Program}
end
section
variable{A:FuncId->Bool}{S:FuncId->List Nat}{P:Program}
theorem Qk{b:Builtin}(h:BK b=true)(ts:Array TypeId)(t:TypeId)(cn:Array Bool)(args:Array Value):Plain [] (builtin b ts t cn args)/\iw isVal (builtin b ts t cn args):=by
 cases b<;>first|(exact absurd (show false=true from h) (by decide))|skip
 all_goals unfold builtin
 all_goals dsimp only
 all_goals exact⟨EH (by first|with_reducible apply BH|with_reducible apply FQ|with_reducible apply DV|with_reducible apply EG|with_reducible apply BI|with_reducible apply FR|with_reducible apply FU|with_reducible apply FX),EI _⟩
end
section
variable{A:FuncId->Bool}{S:FuncId->List Nat}{P:Program}
end
end
section
open Go Go.Conc
section
variable(P:Program)(main:Bool)(R:World->World->Prop)(D:World->World->Array Event->Prop)(Stop:Goroutine->World->Prop)
def dD(g:Goroutine)(w:World):Prop:=∀X:Goroutine->World->Prop,
 (∀g w,(∀w₁,R w w₁->Stop g w₁)->X g w) ->
 (∀g w,g.status=.running->(∀w₁,R w w₁->(stepG P main g w₁).goes λg' w' es=>D w₁ w' es/\X g' w')->X g w)->X g w
end
section
variable{P:Program}{main:Bool}{R:World->World->Prop}{D:World->World->Array Event->Prop}{Stop:Goroutine->World->Prop}
theorem goes_mono{s:GStep}{K K':Goroutine->World->Array Event->Prop}(h:s.goes K)(hk:∀g w es,K g w es->K' g w es):s.goes K':=by
 cases s<;>first|exact hk _ _ _ h|exact h
theorem dD.stop{g:Goroutine}{w:World}(h:∀w₁,R w w₁->Stop g w₁):dD P main R D Stop g w:=λ_ h1 _=>h1 g w h
theorem dD.step{g:Goroutine}{w:World}(hr:g.status=.running)(h:∀w₁,R w w₁->(stepG P main g w₁).goes λg' w' es=>D w₁ w' es/\dD P main R D Stop g' w'):dD P main R D Stop g w :=
 λX h1 h2=>h2 g w hr λw₁ hw=>goes_mono (h w₁ hw) λ_ _ _ hx=>⟨hx.1,hx.2 X h1 h2⟩
theorem dD.cases{g:Goroutine}{w:World}(h:dD P main R D Stop g w):(∀w₁,R w w₁->Stop g w₁)\/(g.status=.running/\∀w₁,R w w₁->(stepG P main g w₁).goes λg' w' es=>D w₁ w' es/\dD P main R D Stop g' w'):=by
 refine h (λg w=>(∀w₁,R w w₁->Stop g w₁)\/(g.status=.running/\∀w₁,R w w₁->(stepG P main g w₁).goes λg' w' es=>D w₁ w' es/\dD P main R D Stop g' w')) (λg w h=>.inl h) (λg w hr h=>.inr ⟨hr,λw₁ hw=>goes_mono (h w₁ hw) λg' w' es hx=>⟨hx.1,?_⟩⟩);rcases hx.2 with h|⟨hr,h⟩
 .exact dD.stop h
 .exact dD.step hr h
theorem dD.rely{g:Goroutine}{w w₁:World}(hT:∀a b c,R a b->R b c->R a c)(h:dD P main R D Stop g w)(hw:R w w₁):dD P main R D Stop g w₁:=by
 rcases h.cases with h|⟨hr,h⟩
 .exact dD.stop λw₂ h2=>h w₂ (hT _ _ _ hw h2)
 .exact dD.step hr λw₂ h2=>h w₂ (hT _ _ _ hw h2)
end
section
variable(P:Program)
end
def reW(w:World)(p:(Nat->Question->Nat)×Nat):World:={w with tape:=p.1,drawn:=p.2}
def cO(w w1:World):Prop:=∃p,w1=reW w p
theorem zK(w:World):cO w w:=⟨(w.tape,w.drawn),rfl⟩
theorem jS(a b c:World)(h:cO a b)(k:cO b c):cO a c:=by
 obtain⟨p,rfl⟩:=h;obtain⟨q,rfl⟩:=k;exact⟨q,rfl⟩
theorem zL{w w1:World}(h:AtRel w w1):cO w w1:=by
 obtain⟨d,rfl⟩:=h;exact⟨(w.tape,d),rfl⟩
theorem dD.weak{P:Program}{main:Bool}{R R':World->World->Prop}{D D':World->World->Array Event->Prop}{Stop:Goroutine->World->Prop}{g:Goroutine}{w:World}(h:dD P main R D Stop g w)(hR:∀a b,R' a b->R a b)(hD:∀w w' es,D w w' es->D' w w' es):dD P main R' D' Stop g w :=
 h (λg w=>dD P main R' D' Stop g w) (λ_ _ hs=>.stop λw₁ h=>hs w₁ (hR _ _ h)) λ_ _ hr hs=>.step hr λw₁ h=>goes_mono (hs w₁ (hR _ _ h)) λ_ _ _ hx=>⟨hD _ _ _ hx.1,hx.2⟩
def VJ(w w':World)(es:Array Event):Prop:=(∀e∈es,nK e)/\gp w w'
section
variable{A:FuncId->Bool}{S:FuncId->List Nat}{P:Program}
open Classical in
open Classical in
theorem Ki(fn:Func)(tmps:Array Value){w w':World}{v:Value}(hh:w'.heap=w.heap)(ho:w'.os=w.os)(hu:w'.output=w.output)(h:(results fn tmps).run P w=.ok v w):(results fn tmps).run P w'=.ok v w':=by
 have hA:lS ⟨w.drawn,w.drawn,w'.drawn,w'.tape⟩ w w':=⟨by simp only;omega,rfl,hh,ho,hu,λk q hk=>by simp only at hk;omega⟩;have h1:=(VD P (results fn tmps) #[] (FY (kn:=[]) fn tmps) hA (by rw[h];exact Jb0 _)).1;rw[Sem.runT_fst,Sem.runT_fst,h]at h1;cases hr:(results fn tmps).run P w' with
 |halt x y=>rw[hr]at h1;exact h1.elim
 |ok a y =>
  rw[hr]at h1;obtain⟨rfl,h2⟩:=h1;have e1:=h2.cnt;have e2:=h2.tp;have e3:=h2.heap;have e4:=h2.os;have e5:=h2.out;simp only at e1 e2;have:y=w':=by
   cases y
   cases w'
   simp only at *;subst e2;congr 1
   .exact e3.trans hh.symm
   .omega
   .exact e4.trans ho.symm
   .exact e5.trans hu.symm
  rw[this]
end
end
section
open Go Go.Conc
open Go.ConcN (sumTo upd sumTo_upd upd_ne upd_same)
def Reaches(P:Program)(K:Machine->Trace->Prop)(m:Machine)(t:Trace):Prop:=∃N m' t',runNT P N m t=(.next m',t')/\K m' t'
section
variable{P:Program}{K K':Machine->Trace->Prop}{m:Machine}{t:Trace}
theorem Reaches.here(h:K m t):Reaches P K m t:=⟨0,m,t,rfl,h⟩
theorem Reaches.step{m1:Machine}{ops:Trace}(h:stepT P m=(.next m1,ops))(h1:Reaches P K m1 (t++ops)):Reaches P K m t:=by
 obtain⟨N,m',t',hr,hk⟩:=h1;exact⟨N+1,m',t',by simp only[runNT,h];exact hr,hk⟩
theorem vU:∀(i k:Nat) {m m':Machine} {t t':Trace},runNT P i m t=(.next m',t')->runNT P (i+k) m t=runNT P k m' t'
 |0,k,m,m',t,t',h=>by cases h;rw[Jbh]
 |i+1,k,m,m',t,t',h=>by
  rw[Nat.succ_add];simp only[runNT]at h |-;generalize stepT P m=r at h;obtain⟨s,ops⟩:=r;cases s with
  |next m1=>exact vU i k h
  |ended o w=>cases h
theorem Reaches.trans(h:Reaches P K m t)(hk:∀m t,K m t->Reaches P K' m t):Reaches P K' m t:=by
 obtain⟨N,m',t',hr,h1⟩:=h;obtain⟨N',m2,t2,hr2,h2⟩:=hk _ _ h1;exact⟨N+N',m2,t2,(vU N N' hr).trans hr2,h2⟩
end
structure aU(Sp:Nat->Prop)(P:Program)(t:Trace)(gs:Array Goroutine)(q:Nat->Nat):Prop where
 old:∀i g,¬Sp i->gs[i]?=some g->QuitsD P (q i) (Deaf t i) g
 above:∀j,gs.size<=j->Deaf t j=0
section
variable{P:Program}{Sp:Nat->Prop}{t:Trace}{gs:Array Goroutine}{q:Nat->Nat}
theorem ofEvents_g{i:Nat}{fn:FuncId}{pos:String}{es:Array Event}:∀op∈MemOp.ofEvents i fn pos es,op.g=i:=by
 intro op hop;rw[ofEvents_eq]at hop;obtain⟨e,_,rfl⟩:=Array.mem_map.1 hop;rfl
theorem aU.leavers(h:aU (· = 0) P t gs q):Leavers P t gs q:=⟨λi g hi hg=>h.old i g (by omega) hg,h.above⟩
theorem aU.pg(h:aU Sp P t gs q){i:Nat}{g g':Goroutine}{w':World}(hi:Sp i)(hlt:i<gs.size){u:Trace}(hu:∀op∈u,op.g=i):aU Sp P (t++u) ((gs.map (woken P g g' w')).setIfInBounds i g') q:=by
 refine⟨λj x hj hx=>?_,λj hj=>?_⟩
 .have hne:i≠j:=by rintro rfl;exact hj hi
  rw[Array.getElem?_setIfInBounds_ne hne,Jbj]at hx;obtain⟨y,hy,rfl⟩:=Jbk.1 hx;have hq:=h.old j y hj hy;rw[woken_quitsD hq,Deaf_other t hne _ hu];exact hq
 .rw[Deaf_other t (g':=i) (by simp at hj;omega) _ hu]
  exact h.above j (by simpa using hj)
theorem aU.slip(h:aU Sp P t gs q){i:Nat}{g:Goroutine}{w:World}(hi:gs[i]?=some g)(hs:¬Sp i)(hz:¬i=0)(hr:g.status=.running)(sl:Option (Nat×Nat)) :
 ∃g' es q',(∀e∈es,Event.mute e=true)/\runT P (crowd gs w sl) i=(.next (crowd ((gs.map (woken P g g' w)).setIfInBounds i g') w sl),MemOp.ofEvents i g.frame.fn g.frame.place es) /\
  aU Sp P (t++MemOp.ofEvents i g.frame.fn g.frame.place es) ((gs.map (woken P g g' w)).setIfInBounds i g') q'/\sumTo gs.size q'<sumTo gs.size q:=by
 have hq:=h.old i g hs hi;have hi0:(i==0)=false:=by simp;omega
 have hlt:i<gs.size:=(Jbd.1 hi).1;cases hqi:q i with
 |zero=>rw[hqi]at hq;rw[hq.1]at hr;cases hr
 |succ k =>
  rw[hqi]at hq;rcases hq with⟨hf,_⟩|⟨_,g',es,hm,hstp,hq'⟩
  .rw[hf]at hr;cases hr
  refine⟨g',es,upd q i k,hm,runT_crowd_go (P:=P) (sl:=sl) (i:=i) hi (by rw[hi0];exact hstp w),⟨λj x hj hx=>?_,λj hj=>?_⟩,?_⟩
  .by_cases hji:i=j
   .subst hji
    rw[Array.getElem?_setIfInBounds_self_of_lt (by simpa using hlt)]at hx;obtain rfl:=Jbm hx;rw[upd_same,Deaf_own];exact hq'
   .rw[Array.getElem?_setIfInBounds_ne hji,Jbj]at hx
    obtain⟨y,hy,rfl⟩:=Jbk.1 hx;have hqj:=h.old j y hj hy;rw[woken_quitsD hqj,upd_ne q k (Ne.symm hji),Deaf_other t hji _ ofEvents_g];exact hqj
  .rw[Deaf_other t (g':=i) (by simp at hj;omega) _ ofEvents_g]
   exact h.above j (by simpa using hj)
  .have:sumTo gs.size (upd q i k)+q i=sumTo gs.size q+k:=sumTo_upd q k id hlt
   omega
theorem aU.awake(h:aU Sp P t gs q)(hs:∀i g,Sp i->gs[i]?=some g->awake g):∀g∈gs,awake g:=by
 intro g hg;obtain⟨i,hi,rfl⟩:=Array.mem_iff_getElem.1 hg;by_cases hsp:Sp i
 .exact hs i _ hsp (Jbn hi)
 .exact awake_of ((h.old i _ hsp (Jbn hi)).status.elim .inl λx=>.inr (.inr x))
theorem dO{i j:Nat}{g' x:Goroutine}{f:Goroutine->Goroutine}(hij:i≠j)(hx:gs[j]?=some x):((gs.map f).setIfInBounds i g')[j]?=some (f x):=by
 rw[Array.getElem?_setIfInBounds_ne hij,Jbj,hx];rfl
theorem ji{i:Nat}{g':Goroutine}{f:Goroutine->Goroutine}(hlt:i<gs.size):((gs.map f).setIfInBounds i g')[i]?=some g':=by
 rw[Array.getElem?_setIfInBounds_self_of_lt (by simpa using hlt)]
end
def jI(t:Trace):Prop:=∃B,Past (λ_=>False) B t
theorem Sr(t:Trace):∃B,∀op∈t,op.act.low B:=by
 obtain⟨l⟩:=t;induction l with
 |nil=>exact⟨0,by simp⟩
 |cons a l ih =>
  obtain⟨B,hB⟩:=ih;obtain⟨B',hB'⟩:∃B',a.act.low B':=by
   cases a.act with
   |access e =>
    obtain⟨l,wr,sy⟩:=e;cases l with
    |cell x=>exact⟨x.block+1,Jbp _⟩
    |obj x=>exact⟨x+1,Jbp _⟩
    |_=>exact⟨0,trivial⟩
   |mark m =>
    cases m with
    |acquire x=>exact⟨x.block+1,Jbp _⟩
    |release x=>exact⟨x.block+1,Jbp _⟩
    |releaseMerge x=>exact⟨x.block+1,Jbp _⟩
    |read x=>exact⟨x.block+1,Jbp _⟩
    |write x=>exact⟨x.block+1,Jbp _⟩
    |_=>exact⟨0,trivial⟩
   |go _=>exact⟨0,trivial⟩
   |start=>exact⟨0,trivial⟩
   |send c _=>exact⟨c+1,Jbp _⟩
   |sendDone c _=>exact⟨c+1,Jbp _⟩
   |recv c _ _=>exact⟨c+1,Jbp _⟩
   |recvDone c _=>exact⟨c+1,Jbp _⟩
   |close c=>exact⟨c+1,Jbp _⟩
   |recvClosed c=>exact⟨c+1,Jbp _⟩
  refine⟨max B B',λop hop=>?_⟩;simp only[Jbq,Jb3]at hop;rcases hop with rfl|hop
  .exact MemAct.low_mono (Jbr _ _) hB'
  .exact MemAct.low_mono (Jbt _ _) (hB op (by simpa using hop))
theorem jI.own{t:Trace}(h:jI t){fn:FuncId}{pos:String}{es:Array Event}(hes:∀e∈es,nK e):jI (t++MemOp.ofEvents 0 fn pos es):=by
 obtain⟨B,h⟩:=h;obtain⟨B',hB'⟩:=Sr (MemOp.ofEvents 0 fn pos es);refine⟨max B B',(h.mono (Jbt _ _)).own λe he=>⟨λ_ _ hs=>hs.elim,(hes e he).1,(hes e he).2,?_⟩⟩;have:=hB' _ (by rw[ofEvents_eq];exact Array.mem_map.2 ⟨e,he,rfl⟩);exact MemAct.low_mono (Jbr _ _) this
theorem jI.mute{t:Trace}(h:jI t){g:Nat}(hg:g≠0){fn:FuncId}{pos:String}{es:Array Event}(hm:∀e∈es,e.mute=true):jI (t++MemOp.ofEvents g fn pos es):=by
 obtain⟨B,h⟩:=h;exact⟨B,h.mute hg hm⟩
def X0(P:Program)(n:Nat)(Stop:Goroutine->World->Prop)(m:Machine)(t:Trace):Prop :=
 ∃gs a w sl q,m=crowd gs w sl/\gs.size=n/\gs[0]?=some a/\Stop a w/\aU (· = 0) P t gs q/\jI t
def yX(_ _:World)(es:Array Event):Prop:=∀e∈es,nK e
section
variable{P:Program}{Stop:Goroutine->World->Prop}
theorem VK{a:Goroutine}{w:World}(h:dD P true AtRel yX Stop a w):∀{gs:Array Goroutine} {sl:Option (Nat×Nat)} {t:Trace} {q:Nat->Nat},gs[0]?=some a->aU (· = 0) P t gs q->jI t->Reaches P (X0 P gs.size Stop) (crowd gs w sl) t:=by
 refine h (λa w=>∀{gs:Array Goroutine} {sl:Option (Nat×Nat)} {t:Trace} {q:Nat->Nat},gs[0]?=some a->aU (· = 0) P t gs q->jI t->Reaches P (X0 P gs.size Stop) (crowd gs w sl) t) ?_ ?_
 .intro a w hs gs sl t q h0 hL hP
  exact .here ⟨gs,a,w,sl,q,rfl,rfl,h0,hs w (atRel_refl w),hL,hP⟩
 .intro a w hrun hstep gs sl t q
  suffices H:∀M w gs sl t q,sumTo gs.size q<=M->(∀w₁,AtRel w w₁->(stepG P true a w₁).goes λg' w' es=>yX w₁ w' es/\∀{gs:Array Goroutine} {sl:Option (Nat×Nat)} {t:Trace} {q:Nat->Nat},gs[0]?=some g'->aU (· = 0) P t gs q->jI t->Reaches P (X0 P gs.size Stop) (crowd gs w' sl) t)->gs[0]?=some a->aU (· = 0) P t gs q->jI t->Reaches P (X0 P gs.size Stop) (crowd gs w sl) t from H _ w gs sl t q (Jb0 _) hstep
  intro M;induction M using Nat.strongRecOn with
  |ind M ih =>
   intro w gs sl t q hM hstep h0 hL hP;have haw:=hL.awake λi g hi hg=>by cases hi;rw[h0]at hg;cases hg;exact awake_of (.inl hrun)
   obtain⟨i,g,d,sl',hi,hg,hst⟩:=crowd_pick (P:=P) (w:=w) (sl:=sl) haw ⟨0,a,h0,hrun⟩;have hlt:0<gs.size:=(Jbd.1 h0).1;by_cases hi0:i=0
   .subst hi0
    obtain rfl:g=a:=by rw[h0]at hi;exact(Jbm hi).symm
    have hs:=hstep (w.at d) ⟨d,rfl⟩;cases hgo:stepG P true g (w.at d)with
    |go a' w' es =>
     rw[hgo,goes_go]at hs;have hrunT:=runT_crowd_go (P:=P) (sl:=sl') (i:=0) hi (show stepG P (0==0) g (w.at d)=_ from hgo);refine Reaches.step (hst.trans hrunT) ?_;have:=hs.2 (gs:=(gs.map (woken P g a' w')).setIfInBounds 0 a') (sl:=sl') (t:=t++MemOp.ofEvents 0 g.frame.fn g.frame.place es) (q:=q) (ji hlt) (hL.pg rfl hlt ofEvents_g) (hP.own hs.1);simpa using this
    |_=>rw[hgo]at hs;exact hs.elim
   .obtain⟨g',es,q',hm,yY,hL',hlt'⟩:=hL.slip (w:=w.at d) hi hi0 hi0 hg sl'
    refine Reaches.step (hst.trans yY) ?_;have hsz:((gs.map (woken P g g' (w.at d))).setIfInBounds i g').size=gs.size:=by simp
    have:=ih (sumTo gs.size q') (by omega) (w.at d) _ sl' _ q' (by rw[hsz];exact Jb0 _) (λw₁ h1=>hstep w₁ (atRel_trans _ _ _ ⟨d,rfl⟩ h1)) (by rw[dO hi0 h0,woken_run hrun]) hL' (hP.mute hi0 hm);rwa [hsz]at this
end
end
