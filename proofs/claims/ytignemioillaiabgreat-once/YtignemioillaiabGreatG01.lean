/- Lemmas. -/
import GoSem.Step
import Derived.Laws.Sem
namespace Go.Proofs.YtignemioillaiabGreat
set_option maxHeartbeats 8000000
set_option maxRecDepth 100000
open List
section
abbrev Jb0:=@Nat.le_refl
abbrev Jb1:=@Nat.le_trans
abbrev Jb2:=@List.mem_cons_of_mem
abbrev Jb3:=@List.mem_cons
abbrev Jb4:=@List.mem_cons_self
abbrev Jb5:=@if_neg
abbrev Jb6:=@if_pos
abbrev Jb7:=@Array.mapM_eq_mapM_toList
abbrev Jb8:=@if_true
abbrev Jb9:=@Bool.false_eq_true
abbrev Jba:=@if_false
abbrev Jbb:=@Option.map_some
abbrev Jbc:=@Option.some.injEq
abbrev Jbd:=@Array.getElem?_eq_some_iff
abbrev Jbf:=@Array.getElem?_push
abbrev Jbg:=@List.foldl_cons
abbrev Jbh:=@Nat.zero_add
abbrev Jbj:=@Array.getElem?_map
abbrev Jbk:=@Option.map_eq_some_iff
abbrev Jbm:=@Option.some.inj
abbrev Jbn:=@Array.getElem?_eq_getElem
abbrev Jbp:=@Nat.lt_succ_self
abbrev Jbq:=@List.mem_toArray
abbrev Jbr:=@Nat.le_max_right
abbrev Jbt:=@Nat.le_max_left
abbrev Jbv:=@Nat.le_add_right
abbrev Jbw:=@List.not_mem_nil
abbrev Jbx:=@or_false
abbrev Jby:=@Array.append_empty
abbrev Jbz:=@Nat.lt_of_lt_of_le
abbrev Jc0:=@Nat.le_of_eq
abbrev Jc1:=@List.append_nil
abbrev Jc2:=@List.range_succ
abbrev Jc3:=@List.mem_range
abbrev Jc4:=@Nat.le_of_ble_eq_true
abbrev Jc5:=@List.getElem?_take
abbrev Jc6:=@List.length_append
abbrev Jc7:=@Nat.zero_mul
abbrev Jc8:=@List.getElem?_append_left
abbrev Jc9:=@List.getElem?_append_right
abbrev Jca:=@Nat.ble_eq_true_of_le
abbrev Jcb:=@List.map_drop
abbrev Jcc:=@List.getElem?_eq_getElem
abbrev Jcd:=@List.ext_getElem?
abbrev Jcf:=@List.getElem?_drop
abbrev Jcg:=@List.getElem?_eq_none
abbrev Jch:=@List.drop_eq_getElem_cons
abbrev Jcj:=@List.map_cons
abbrev Jck:=@List.set_eq_take_append_cons_drop
abbrev Jcm:=@Nat.zero_le
abbrev Jcn:=@List.getElem?_eq_some_iff
abbrev Jcp:=@Option.isSome_iff_exists
abbrev Jcq:=@List.eq_nil_of_length_eq_zero
abbrev Jcr:=@Nat.mul_le_mul_right
abbrev Jct:=@List.getElem?_eq_none_iff
abbrev Jcv:=@List.mem_of_getElem?
abbrev Jcw:=@Prod.mk.injEq
abbrev Jcx:=@Array.getD_eq_getD_getElem?
abbrev Jcy:=@List.getElem?_toArray
abbrev Jcz:=@List.getElem?_cons_succ
abbrev Jd0:=@List.getElem?_cons_zero
abbrev Jd1:=@Option.getD_some
abbrev Jd2:=@List.take_of_length_le
abbrev Jd3:=@List.take_append_of_le_length
abbrev Jd4:=@List.append_assoc
abbrev Jd5:=@List.take_take
abbrev Jd6:=@List.length_take
abbrev Jd7:=@Nat.min_eq_left
abbrev Jd8:=@List.cons.injEq
abbrev Jd9:=@beq_eq_false_iff_ne
abbrev Jda:=@List.map_append
abbrev Jdb:=@List.mem_map
abbrev Jdc:=@List.mem_append
abbrev Jdd:=@List.getElem?_map
abbrev Jdf:=@List.mem_iff_getElem?
abbrev Jdg:=@Array.toList_eraseIdxIfInBounds
abbrev Jdh:=@List.eraseIdx_sublist
abbrev Jdj:=@List.mem_of_mem_eraseIdx
abbrev Jdk:=@List.nodup_cons
abbrev Jdm:=@List.filter_cons_of_neg
abbrev Jdn:=@List.filter_cons_of_pos
abbrev Jdp:=@List.filter_sublist
abbrev Jdq:=@Nat.eq_of_beq_eq_true
abbrev Jdr:=@decide_eq_true_eq
abbrev Jdt:=@Option.bind_some
abbrev Jdv:=@Array.ext'
abbrev Jdw:=@Array.getElem?_toList
abbrev Jdx:=@List.getD_eq_getElem?_getD
abbrev Jdy:=@Bool.and_eq_true
abbrev Jdz:=@Bool.true_and
abbrev Jf0:=@Array.toList_map
abbrev Jf1:=@Option.bind_eq_some_iff
abbrev Jf2:=@Option.map_none
abbrev Jf3:=@Option.isNone_iff_eq_none
abbrev Jf4:=@Int.natCast_mul
abbrev Jf5:=@List.size_toArray
abbrev Jf6:=@List.length_map
abbrev Jf7:=@List.length_drop
abbrev Jf8:=@Bool.not_eq_true'
abbrev Jf9:=@Nat.mul_le_mul
abbrev Jfa:=@Int.toNat_natCast
abbrev Jfb:=@Int.le_refl
abbrev Jfc:=@beq_iff_eq
abbrev Jfd:=@List.mem_of_find?_eq_some
abbrev Jff:=@List.length_filter_le
abbrev Jfg:=@Array.getElem?_append_left
abbrev Jfh:=@List.filter_append
abbrev Jfj:=@List.drop_take
abbrev Jfk:=@Nat.succ_mul
abbrev Jfm:=@List.take_add_one
abbrev Jfn:=@List.take_length
abbrev Jfp:=@Int.toNat_of_nonneg
abbrev Jfq:=@Nat.mul_one
abbrev Jfr:=@List.flatten_append
abbrev Jft:=@Nat.le_of_lt
abbrev Jfv:=@List.mem_eraseIdx_iff_getElem?
abbrev Jfw:=@List.flatten_cons
abbrev Jfx:=@List.flatMap_def
abbrev Jfy:=@List.mem_of_mem_take
abbrev Jfz:=@List.length_singleton
abbrev Jg0:=@List.getElem?_zip_eq_some
abbrev Jg1:=@decide_eq_true
abbrev Jg2:=@decide_eq_false
abbrev Jg3:=@List.getElem?_zipWith
abbrev Jg4:=@List.foldl_append
abbrev Jg5:=@Nat.zero_lt_succ
abbrev Jg6:=@List.mem_singleton
abbrev Jg7:=@Int.natCast_nonneg
abbrev Jg8:=@Classical.byContradiction
abbrev Jg9:=@Nat.lt_or_eq_of_le
abbrev Jga:=@List.getElem_of_mem
abbrev Jgb:=@Nat.mod_eq_of_lt
abbrev Jgc:=@List.drop_eq_nil_of_le
abbrev Jgd:=@List.length_set
abbrev Jgf:=@List.getElem?_set_self
abbrev Jgg:=@List.getElem?_set_ne
abbrev Jgh:=@List.getElem?_of_mem
abbrev Jgj:=@Int.fdiv_eq_ediv_of_nonneg
abbrev Jgk:=@List.take_append_drop
abbrev Jgm:=@Int.eq_ofNat_of_zero_le
abbrev Jgn:=@decide_eq_true_iff
abbrev Jgp:=@List.pairwise_append
abbrev Jgq:=@List.pairwise_cons
abbrev Jgr:=@List.length_replicate
abbrev Jgt:=@List.getElem?_replicate
abbrev Jgv:=@Nat.lt_of_le_of_lt
abbrev Jgw:=@List.getElem?_append
abbrev Jgx:=@List.mem_append_left
abbrev Jgy:=@decide_eq_false_iff_not
end
section
open Go
theorem Ptq{p:Prop}[Decidable p](h:decide p=true):p:=of_decide_eq_true h
theorem Ptx{p:Prop}[Decidable p](h:decide p=false):¬p:=of_decide_eq_false h
abbrev Pty(b:Nat):Option Go.Addr:=some ⟨b,0,none⟩
abbrev Ptz:Go.Value:=.slice none 0 0
abbrev Ptt(b:Nat):Go.Value:=.pointer (some ⟨b,0,none⟩)
structure Al(w w':World):Prop where
 heap:w'.heap=w.heap
 os:w'.os=w.os
 out:w'.output=w.output
 next:∀k q,w'.tape (w'.drawn+k) q=w.tape (w.drawn+k) q
theorem Al.refl(w:World):Al w w:=⟨rfl,rfl,rfl,λ_ _=>rfl⟩
theorem Ot(p:Program){w w':World}(h:Al w w')(at_:Addr)(u:TypeId)(k:Addr)(b:Bool):w'.seen p at_ u k b=w.seen p at_ u k b:=by
 unfold World.seen;rw[h.heap]
theorem NI(p:Program){w w':World}(h:Al w w')(at_:Addr)(u:TypeId)(k:Addr)(b:Bool):w'.viewLoad p at_ u k b=w.viewLoad p at_ u k b:=by
 unfold World.viewLoad;rw[Ot p h]
theorem Qc(p:Program){w w':World}(h:Al w w')(a:Addr)(b:Bool):w'.farLoad p a b=w.farLoad p a b:=by
 unfold World.farLoad World.noCell;rw[h.heap];split
 .rw[NI p h]
 .rfl
theorem Bu(p:Program){w w':World}(h:Al w w')(at_:Addr)(u:TypeId)(k:Addr)(v:Value)(b:Bool):w'.viewStore p at_ u k v b=(w.viewStore p at_ u k v b).map (λr=>({w' with heap:=r.1.heap},r.2)):=by
 unfold World.viewStore;rw[Ot p h,h.heap];cases w.seen p at_ u k b with
 |error e =>
  simp only[bind,Except.bind,Except.map];split<;>rfl
 |ok r =>
  obtain⟨c,e,fz,first,like,cells⟩:=r;simp only[bind,Except.bind,pure,Except.pure,Except.map];repeat' split
  all_goals first|rfl|simp_all
def KH{α:Type}:Result α->World
 |.ok _ w=>w
 |.halt _ w=>w
structure Bd where
 n:Nat
 a:Nat
 b:Nat
 t:Nat->Question->Nat
structure lS(L:Bd)(w w':World):Prop where
 cnt:w'.drawn+L.a=w.drawn+L.b
 tp:w'.tape=L.t
 heap:w'.heap=w.heap
 os:w'.os=w.os
 out:w'.output=w.output
 next:∀k q,w.drawn+k<L.n->w'.tape (w'.drawn+k) q=w.tape (w.drawn+k) q
section
variable{L:Bd}{w w':World}
theorem lS.al(h:lS L w w'):Al {w with tape:=λ_ _=>0} {w' with tape:=λ_ _=>0}:=⟨h.heap,h.os,h.out,λ_ _=>rfl⟩
theorem lS.draw(h:lS L w w'):lS L {w with drawn:=w.drawn+1} {w' with drawn:=w'.drawn+1} :=
 ⟨by have:=h.cnt;simp only;omega,h.tp,h.heap,h.os,h.out,λk q hk=>by have:=h.next (1+k) q (by simp only at hk;omega);simpa[Nat.add_assoc]using this⟩
theorem lS.put(h:lS L w w')(H:Array Obj):lS L {w with heap:=H} {w' with heap:=H}:=⟨h.cnt,h.tp,rfl,h.os,h.out,h.next⟩
theorem lS.cell(h:lS L w w')(a:Addr):w'.cell? a=w.cell? a:=by unfold World.cell?;rw[h.heap]
theorem lS.frz(h:lS L w w')(a:Addr):w'.frozen? a=w.frozen? a:=by unfold World.frozen?;rw[h.heap]
theorem lS.shp(h:lS L w w')(r:Nat):w'.shape? r=w.shape? r:=by unfold World.shape?;rw[h.heap]
theorem lS.freeze(h:lS L w w')(a:Addr)(n:Nat):lS L (w.freeze a n) (w'.freeze a n):=by
 unfold World.freeze;split
 .exact h
 .rw[h.heap];exact h.put _
theorem lS.setCell(h:lS L w w')(a:Addr)(v:Value):lS L (w.setCell a v) (w'.setCell a v):=by
 unfold World.setCell;rw[h.heap];exact h.put _
end
def RL{α:Type}(L:Bd):Result α->Result α->Prop
 |.ok a w,.ok b w'=>a=b/\lS L w w'
 |.halt x w,.halt y w'=>x=y/\lS L w w'
 |_,_=>False
theorem VA{α:Type}(q:Ask α):∀(w:World),w.drawn<=(w.ask q).2.drawn:=by
 induction q with
 |done a=>exact λw=>Jb0 _
 |ask what range k ih =>
  intro w;simp only[World.ask];split
  .exact ih 0 w
  .exact Jb1 (Nat.le_succ _) (ih _ {w with drawn:=w.drawn+1})
theorem VB(c:Sys)(w:World):w.drawn<=(w.sys c).2.drawn:=by
 have h:=VA (Kernel.perform c w.os) w;unfold World.sys;generalize w.ask (Kernel.perform c w.os)=r at h;obtain⟨⟨a,o⟩,x⟩:=r;cases a<;>first|exact h|exact Jb0 _
def aaT:Mark->Prop
 |.noRoom | .extern _=>True
 |_=>False
def FC:Halt->Prop
 |.panic _ | .unsupported _ | .stuck _=>True
 |_=>False
def knows(r:Nat)(kn:List Nat):Obj->List Nat
 |.chan _ _ _ _ _ _=>kn
 |_=>r::kn
def Plain{α:Type}(kn:List Nat):Sem α->Prop
 |.pure _=>True
 |.load _ _ k=>∀v,Plain kn (k v)
 |.store _ _ _ k=>Plain kn k
 |.new o k=>o.isChan=false/\∀r,Plain kn (k r)
 |.shape _ k=>∀r,Plain kn (k r)
 |.freeze _ _ k=>Plain kn k
 |.frozen _ k=>∀b,Plain kn (k b)
 |.getObj r k=>∀o,Plain (knows r kn o) (k o)
 |.setObj r o k=>r∈kn/\o.isChan=false/\Plain kn k
 |.choose _ k=>∀n,Plain kn (k n)
 |.sys _ _=>False
 |.program k=>∀p,Plain kn (k p)
 |.mark m k=>aaT m/\Plain kn k
 |.halt h=>FC h
theorem Sj{r x:Nat}{kn:List Nat}(o:Obj)(h:x∈kn):x∈knows r kn o:=by
 cases o<;>first|exact h|exact Jb2 _ h
theorem Qd{r:Nat}{kn FD:List Nat}(o:Obj)(h:∀x∈kn,x∈FD):∀x∈knows r kn o,x∈knows r FD o:=by
 cases o<;>first|exact h|(intro x hx;rcases Jb3.1 hx with rfl|hx;exact Jb4;exact Jb2 _ (h x hx))
theorem Plain.mono{α:Type}{s:Sem α}:∀{kn FD:List Nat},(∀x∈kn,x∈FD)->Plain kn s->Plain FD s:=by
 induction s with
 |pure a=>exact λ_ _=>trivial
 |load m a k ih=>exact λhk h v=>ih v hk (h v)
 |store m a v k ih=>exact λhk h=>ih hk h
 |new o k ih=>exact λhk h=>⟨h.1,λr=>ih r hk (h.2 r)⟩
 |shape r k ih=>exact λhk h v=>ih v hk (h v)
 |freeze a n k ih=>exact λhk h=>ih hk h
 |frozen a k ih=>exact λhk h v=>ih v hk (h v)
 |getObj r k ih=>exact λhk h v=>ih v (Qd v hk) (h v)
 |setObj r o k ih=>exact λhk h=>⟨hk _ h.1,h.2.1,ih hk h.2.2⟩
 |choose q k ih=>exact λhk h v=>ih v hk (h v)
 |sys c k ih=>exact λ_ h=>h.elim
 |program k ih=>exact λhk h v=>ih v hk (h v)
 |mark m k ih=>exact λhk h=>⟨h.1,ih hk h.2⟩
 |halt x=>exact λ_ h=>h
theorem Plain.bind{α β:Type}{f:α->Sem β}:∀{s:Sem α} {kn:List Nat},Plain kn s->(∀a,Plain kn (f a))->Plain kn (s.bind f):=by
 intro s;induction s with
 |pure a=>exact λ_ hf=>hf a
 |load m a k ih=>exact λh hf v=>ih v (h v) hf
 |store m a v k ih=>exact λh hf=>ih h hf
 |new o k ih=>exact λh hf=>⟨h.1,λr=>ih r (h.2 r) hf⟩
 |shape r k ih=>exact λh hf v=>ih v (h v) hf
 |freeze a n k ih=>exact λh hf=>ih h hf
 |frozen a k ih=>exact λh hf v=>ih v (h v) hf
 |getObj r k ih=>exact λh hf v=>ih v (h v) λa=>(hf a).mono λx hx=>Sj v hx
 |setObj r o k ih=>exact λh hf=>⟨h.1,h.2.1,ih h.2.2 hf⟩
 |choose q k ih=>exact λh hf v=>ih v (h v) hf
 |sys c k ih=>exact λh=>h.elim
 |program k ih=>exact λh hf v=>ih v (h v) hf
 |mark m k ih=>exact λh hf=>⟨h.1,ih h.2 hf⟩
 |halt x=>exact λh _=>h
theorem Plain.bind'{α β:Type}{kn:List Nat}{f:α->Sem β}{s:Sem α}(h:Plain kn s)(hf:∀a,Plain kn (f a)):Plain kn (s>>=f):=Plain.bind h hf
theorem Plain.obj{β:Type}{kn:List Nat}{f:Obj->Sem β}{r:Nat}(hf:∀o,Plain (knows r kn o) (f o)):Plain kn (getObj r>>=f):=hf
theorem VC{α:Type}(p:Program)(s:Sem α):∀(w:World),w.drawn<=(KH (s.run p w)).drawn:=by
 have fs:∀(w:World) (a:Addr) (v:Value) (b:Bool) (x:World) (l:List Addr),w.farStore p a v b=.ok (x,l)->x.drawn=w.drawn:=by
  intro w a v b x l h;unfold World.farStore at h;split at h
  .rename_i at_ u _
   have e:=Bu p (Al.refl w) at_ u a v b
   cases hr:w.viewStore p at_ u a v b with
   |error e=>rw[hr]at h;cases h
   |ok r =>
    rw[hr]at h e;simp only[Except.map,Except.ok.injEq]at e;have e1:r.1={w with heap:=r.1.heap}:=congrArg Prod.fst e;obtain rfl:r=(x,l):=by simpa using h
    have e2:=congrArg World.drawn e1;exact e2
  .cases h
 induction s with
 |pure a=>exact λw=>Jb0 _
 |load m a k ih =>
  intro w;simp only[Sem.run];split
  .exact ih _ w
  .split
   .exact ih _ w
   .exact Jb0 _
 |store m a v k ih =>
  intro w;cases v<;>simp only[Sem.run]<;>first|exact Jb0 _|skip
  all_goals
   split
   .split
    .exact Jb0 _
    .exact ih (w.setCell a _)
   .split
    .rename_i x l hx
     rw[<-fs w a _ _ x l hx];exact ih x
    .exact Jb0 _
 |new o k ih=>exact λw=>ih _ {w with heap:=w.heap.push o}
 |shape r k ih=>exact λw=>ih _ w
 |freeze a n k ih =>
  intro w;have h:=ih (w.freeze a n);have e:(w.freeze a n).drawn=w.drawn:=by unfold World.freeze;split<;>rfl
  rw[e]at h;exact h
 |frozen a k ih=>exact λw=>ih _ w
 |getObj r k ih =>
  intro w;simp only[Sem.run];split
  .exact Jb0 _
  .exact ih _ w
  .exact Jb0 _
 |setObj r o k ih =>
  intro w;simp only[Sem.run];split
  .exact Jb0 _
  .exact ih {w with heap:=w.heap.setIfInBounds r o}
  .exact Jb0 _
 |choose q k ih =>
  intro w;simp only[Sem.run];split
  .exact ih 0 w
  .exact Jb1 (Nat.le_succ _) (ih _ {w with drawn:=w.drawn+1})
 |sys c k ih=>exact λw=>Jb1 (VB c w) (ih _ (w.sys c).2)
 |program k ih=>exact λw=>ih p w
 |mark m k ih=>exact λw=>ih w
 |halt x=>exact λw=>Jb0 _
theorem NJ(p:Program){L:Bd}{w w':World}(h:lS L w w')(a:Addr)(b:Bool):w'.farLoad p a b=w.farLoad p a b:=by
 have h0:=Qc p (w:={w with tape:=λ_ _=>0}) (w':={w' with tape:=λ_ _=>0}) h.al a b;have e:∀x:World,({x with tape:=λ_ _=>0}:World).farLoad p a b=x.farLoad p a b:=by
  intro x;unfold World.farLoad World.noCell;rfl
 rw[e,e]at h0;exact h0
theorem NK(p:Program){w w':World}(hh:w'.heap=w.heap)(at_:Addr)(u:TypeId)(k:Addr)(v:Value)(b:Bool):w'.viewStore p at_ u k v b=(w.viewStore p at_ u k v b).map (λr=>({w' with heap:=r.1.heap},r.2)):=by
 have hs:w'.seen p at_ u k b=w.seen p at_ u k b:=by unfold World.seen;rw[hh]
 unfold World.viewStore;rw[hs,hh];cases w.seen p at_ u k b with
 |error e =>
  simp only[bind,Except.bind,Except.map];split<;>rfl
 |ok r =>
  obtain⟨c,e,fz,first,like,cells⟩:=r;simp only[bind,Except.bind,pure,Except.pure,Except.map];repeat' split
  all_goals first|rfl|simp_all
theorem KI(p:Program){L:Bd}{w w':World}(h:lS L w w')(a:Addr)(v:Value)(b:Bool):(∃e,w.farStore p a v b=.error e/\w'.farStore p a v b=.error e)\/∃x x' l,w.farStore p a v b=.ok (x,l)/\w'.farStore p a v b=.ok (x',l)/\lS L x x':=by
 unfold World.farStore World.noCell;rw[h.heap];split
 .rename_i at_ u _
  rw[NK p h.heap];cases hr:w.viewStore p at_ u a v b with
  |error e=>exact .inl ⟨_,rfl,rfl⟩
  |ok r =>
   have e:=Bu p (Al.refl w) at_ u a v b
   rw[hr]at e;simp only[Except.map,Except.ok.injEq]at e;have e1:r.1={w with heap:=r.1.heap}:=congrArg Prod.fst e;refine .inr ⟨r.1,{w' with heap:=r.1.heap},r.2,rfl,rfl,?_⟩;rw[e1];exact h.put _
 .exact .inl ⟨_,rfl,rfl⟩
theorem VD{α:Type}(p:Program){L:Bd}(s:Sem α):∀{w w':World} {kn:List Nat} (es:Array Event),Plain kn s->lS L w w'->(KH (s.run p w)).drawn<=L.n->RL L (s.runT p w es).1 (s.runT p w' es).1/\(s.runT p w' es).2=(s.runT p w es).2:=by
 induction s with
 |pure a=>exact λes _ h _=>⟨⟨rfl,h⟩,rfl⟩
 |load m a k ih =>
  intro w w' kn es hp h hL;simp only[Sem.run,Sem.runT]at hL |-;rw[h.cell a,NJ p h];cases hc:w.cell? a with
  |some v=>rw[hc]at hL;exact ih v _ (hp v) h hL
  |none =>
   rw[hc]at hL;cases hf:w.farLoad p a (m == .atomic)with
   |ok r=>simp only[hf]at hL;exact ih r.1 _ (hp _) h hL
   |error e=>exact⟨⟨rfl,h⟩,rfl⟩
 |store m a v k ih =>
  intro w w' kn es hp h hL;cases v<;>simp only[Sem.run,Sem.runT]at hL |- <;> first|exact⟨⟨rfl,h⟩,rfl⟩|exact⟨⟨rfl,h⟩,trivial⟩|skip
  all_goals
   rw[h.cell a,h.frz a];cases hc:w.cell? a with
   |some v =>
    simp only[hc]at hL |-;split
    .exact⟨⟨rfl,h⟩,rfl⟩
    .rename_i hz
     rw[Jb5 hz]at hL;exact ih _ hp (h.setCell _ _) hL
   |none =>
    simp only[hc]at hL |-;rcases KI p h a _ (m == .atomic)with⟨e,h1,h2⟩|⟨x,x',l,h1,h2,h3⟩
    .rw[h1,h2];exact⟨⟨rfl,h⟩,rfl⟩
    .rw[h1]at hL;rw[h1,h2];exact ih _ hp h3 hL
 |new o k ih =>
  intro w w' kn es hp h hL;simp only[Sem.run,Sem.runT]at hL |-;rw[h.heap];exact ih _ _ (hp.2 _) (h.put _) hL
 |shape r k ih =>
  intro w w' kn es hp h hL;simp only[Sem.run,Sem.runT]at hL |-;rw[h.shp];exact ih _ _ (hp _) h hL
 |freeze a n k ih=>exact λes hp h hL=>ih es hp (h.freeze a n) hL
 |frozen a k ih =>
  intro w w' kn es hp h hL;simp only[Sem.run,Sem.runT]at hL |-;rw[h.frz];exact ih _ _ (hp _) h hL
 |getObj r k ih =>
  intro w w' kn es hp h hL;simp only[Sem.run,Sem.runT]at hL |-;rw[h.heap];cases hr:w.heap[r]? with
  |none=>exact⟨⟨rfl,h⟩,rfl⟩
  |some o=>cases o<;>simp only[hr]at hL |- <;> first|exact⟨⟨rfl,h⟩,rfl⟩|exact⟨⟨rfl,h⟩,trivial⟩|exact ih _ _ (hp _) h hL
 |setObj r o k ih =>
  intro w w' kn es hp h hL;simp only[Sem.run,Sem.runT]at hL |-;rw[h.heap];cases hr:w.heap[r]? with
  |none=>exact⟨⟨rfl,h⟩,rfl⟩
  |some o=>cases o<;>simp only[hr]at hL |- <;> first|exact⟨⟨rfl,h⟩,rfl⟩|exact⟨⟨rfl,h⟩,trivial⟩|exact ih _ hp.2.2 (h.put _) hL
 |choose q k ih =>
  intro w w' kn es hp h hL;simp only[Sem.run,Sem.runT]at hL |-;split
  .rename_i hf
   rw[Jb6 hf]at hL;exact ih 0 _ (hp _) h hL
  .rename_i hf
   rw[Jb5 hf]at hL;have hm:=VC p (k (q.cut (w.tape w.drawn q))) {w with drawn:=w.drawn+1};have h0:=h.next 0 q (by simp only at hm;omega);simp only[Nat.add_zero]at h0;rw[h0];exact ih _ _ (hp _) h.draw hL
 |sys c k ih=>exact λes hp=>hp.elim
 |program k ih=>exact λes hp h hL=>ih p es (hp p) h hL
 |mark m k ih=>exact λes hp h hL=>ih _ hp.2 h hL
 |halt x=>exact λes _ h _=>⟨⟨rfl,h⟩,rfl⟩
end
