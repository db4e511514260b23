/- Lemmas. -/
import Derived.Test.YtignemioillaiaaGreatG13
import Derived.Maps.RangeRun
import Derived.IntWalk
namespace Go.Proofs.YtignemioillaiaaGreat
set_option maxHeartbeats 8000000
set_option maxRecDepth 100000
open List
section
open Go Go.Conc Go.RowKit
structure mh(w:World)(m:Nat)(l:List (Int×Value)):Prop where
 ex:∃es clock,w.heap[m]? = some (.map es clock)/\es.toList.map (λe=>(e.key,e.val))=l.map (λp=>(Value.int .u32 p.1,p.2))/\(es.toList.map MapEntry.born).Nodup/\∀e∈es.toList,e.born<clock
 keys:(l.map Prod.fst).Nodup
theorem mh.same{w w':World}{m:Nat}{l:List (Int×Value)}(h:mh w m l)(hs:cB w w'):mh w' m l:=by
 obtain⟨es,c,h1,h2⟩:=h.ex;exact⟨⟨es,c,by rw[hs.heap];exact h1,h2⟩,h.keys⟩
theorem mh.keep{w w':World}{m:Nat}{l:List (Int×Value)}(h:mh w m l)(hs:w'.heap[m]? = w.heap[m]?):mh w' m l:=by
 obtain⟨es,c,h1,h2⟩:=h.ex;exact⟨⟨es,c,by rw[hs];exact h1,h2⟩,h.keys⟩
theorem Zr.aeQ{w:World}{m:Nat}(h:Zr w m):mh w m []:=⟨⟨#[],0,h,rfl,nodup_nil,by simp⟩,nodup_nil⟩
def idx(l:List (Int×Value))(k:Int):Option (Nat×Value):=go l 0
where go:List (Int×Value)->Nat->Option (Nat×Value)
 | [],_=>none
 |p::r,i=>if p.1=k then some (i,p.2)else go r (i+1)
theorem yo(k:Int):∀(es:List MapEntry) (l:List (Int×Value)) (i:Nat),es.map (λe=>(e.key,e.val))=l.map (λp=>(Value.int .u32 p.1,p.2))->Instr.findNow (.int .u32) (.int .u32 k) es i=some (idx.go k l i)
 | [],l,i,h=>by
  cases l with
  |nil=>rfl
  |cons p r=>simp at h
 |e::es,l,i,h=>by
  cases l with
  |nil=>simp at h
  |cons p r =>
   simp only[map_cons,List.cons.injEq,Prod.mk.injEq]at h;obtain⟨⟨h1,h2⟩,h3⟩:=h;unfold Instr.findNow idx.go;rw[h1,h2];by_cases hk:p.1=k
   ·simp[Instr.sameNow,hk]
   ·have:¬k=p.1:=λe=>hk e.symm
    simp only[Instr.sameNow,if_true,beq_eq_false_iff_ne.2 this,hk,if_false];exact yo k es r (i+1) h3
section
variable{P:Program}{w:World}{m:Nat}{l:List (Int×Value)}
theorem Mq{t key e:TypeId}{z:Value}{k:Int}(ht:P.underlying t=some (.map key e))(hk:P.underlying key=some (.int .u32))(hz:∀w,(zeroValue e).run P w=.ok z w)(h:mh w m l):(Instr.lookup t (.map (some m)) (.int .u32 k) true).run P w=.ok (match idx l k with|some (_,v)=>.tuple #[v,.bool true]|none=>.tuple #[z,.bool false]) w:=by
 obtain⟨es,c,h1,h2,_,_⟩:=h.ex;have hf:=yo k es.toList l 0 h2;have hc:=wS (P:=P) (k:=k) (b:=es.isEmpty) hk 9999 w;simp only[Nat.reduceAdd]at hc;have hi:idx l k=idx.go k l 0:=rfl;rw[hi];cases hg:idx.go k l 0 with
 |none =>
  rw[hg]at hf;simp[Instr.lookup,run_underlying ht,run_underlying hk,getObj,h1,Sem.run,hz,Instr.findKey,hf,hc]
 |some p =>
  rw[hg]at hf;obtain⟨i,v⟩:=p;simp[Instr.lookup,run_underlying ht,run_underlying hk,getObj,h1,Sem.run,Instr.findKey,hf,hc]
theorem OU{t ty key e:TypeId}(ht:P.underlying t=some (.map key e))(h:mh w m l):∃w',(Builtin.clear_ #[t] ty #[.map (some m)]).run P w=.ok (.tuple #[]) w'/\mh w' m []/\GB (some m) w w':=by
 obtain⟨es,c,h1,h2,_,_⟩:=h.ex;refine⟨{ w with heap:=w.heap.setIfInBounds m (.map #[] c) },?_,⟨⟨#[],c,?_,rfl,nodup_nil,by simp⟩,nodup_nil⟩,⟨rfl,rfl,by simp,λx hx hne=>?_⟩⟩
 ·simp[Builtin.clear_,run_underlying ht,getObj,setObj,h1,Sem.run]
 ·exact Array.getElem?_setIfInBounds_self_of_lt (ae h1)
 ·exact Array.getElem?_setIfInBounds_ne λe=>hne (by rw[e])
def OV(l:List (Int×Value))(k:Int)(v:Value):List (Int×Value):=match idx l k with
 |some (i,_)=>l.modify i λ_p=>(k,v)
 |none=>l++[(k,v)]
theorem qf{k:Int}:∀{l:List (Int×Value)} {i j:Nat} {v:Value},idx.go k l i=some (j,v)->∃d,j=i+d/\l[d]? = some (k,v)
 | [],_,_,_,h=>by simp[idx.go]at h
 |p::r,i,j,v,h=>by
  unfold idx.go at h;split at h
  ·rename_i hk
   cases h
   exact⟨0,rfl,by simp[<-hk]⟩
  ·obtain⟨d,h1,h2⟩:=qf h
   exact⟨d+1,by omega,by simpa using h2⟩
theorem y9{k:Int}:∀{l:List (Int×Value)} {i:Nat},idx.go k l i=none->∀p∈l,p.1≠k
 | [],_,_,p,hp=>by simp at hp
 |q::r,i,h,p,hp=>by
  unfold idx.go at h;split at h
  ·cases h
  ·rename_i hk
   rcases mem_cons.1 hp with rfl|hp
   ·exact hk
   ·exact y9 h p hp
theorem qX{α β:Type}(f:α->β)(g:α->α)(g':β->β)(hfg:∀x,f (g x)=g' (f x)):∀(l:List α) (i:Nat),(l.modify i g).map f=(l.map f).modify i g'
 | [],_=>by simp
 |x::r,0=>by simp[hfg]
 |x::r,i+1=>by simpa using qX f g g' hfg r i
theorem Mr{t key e:TypeId}{k:Int}{v:Value}(ht:P.underlying t=some (.map key e))(hk:P.underlying key=some (.int .u32))(h:mh w m l):∃w',(Instr.mapUpdate t (.map (some m)) (.int .u32 k) v).run P w=.ok () w'/\mh w' m (OV l k v)/\GB (some m) w w':=by
 obtain⟨es,c,h1,h2,h3,h4⟩:=h.ex;have hf:=yo k es.toList l 0 h2;have hc:=wS (P:=P) (k:=k) (b:=false) hk 9999 w;simp only[Nat.reduceAdd]at hc;have hlt:=ae h1;unfold OV;rw[show idx l k=idx.go k l 0 from rfl];cases hg:idx.go k l 0 with
 |none =>
  rw[hg]at hf;refine⟨{ w with heap:=w.heap.setIfInBounds m (.map (es.push { key:=.int .u32 k,val:=v,born:=c }) (c+1)) },?_,⟨⟨_,_,Array.getElem?_setIfInBounds_self_of_lt hlt,?_,?_,?_⟩,?_⟩,⟨rfl,rfl,by simp,λx hx hne=>Array.getElem?_setIfInBounds_ne λe=>hne (by rw[e])⟩⟩
  ·simp[Instr.mapUpdate,run_underlying ht,run_underlying hk,getObj,setObj,h1,Sem.run,Instr.findKey,hf,hc]
  ·simp[h2]
  ·simp only[Array.toList_push,map_append,map_cons,map_nil]
   refine nodup_append.2 ⟨h3,by simp,?_⟩;intro a ha b hb;simp only[mem_cons,not_mem_nil,or_false]at hb;obtain⟨e',he,rfl⟩:=mem_map.1 ha;have:=h4 e' he;omega
  ·intro e' he
   simp only[Array.toList_push,mem_append,mem_cons,not_mem_nil,or_false]at he;rcases he with he|rfl
   ·have:=h4 e' he;omega
   ·exact Nat.lt_succ_self _
  ·simp only[map_append,map_cons,map_nil]
   refine nodup_append.2 ⟨h.keys,by simp,?_⟩;intro a ha b hb;simp only[mem_cons,not_mem_nil,or_false]at hb;obtain⟨p,hp,rfl⟩:=mem_map.1 ha;rw[hb];exact y9 hg p hp
 |some q =>
  obtain⟨i,v0⟩:=q;rw[hg]at hf;obtain⟨d,hd,hi⟩:=qf hg;obtain rfl:d=i:=by omega
  have hes:∃e0,es[d]? = some e0/\e0.key=.int .u32 k:=by
   have:=congrArg (λq=>q[d]?) h2;simp only[getElem?_map,hi,Option.map_some]at this;obtain⟨e0,he0,he1⟩:=Option.map_eq_some_iff.1 this;exact⟨e0,by simpa using he0,by simpa using congrArg Prod.fst he1⟩
  obtain⟨e0,he0,he1⟩:=hes;refine⟨{ w with heap:=w.heap.setIfInBounds m (.map (es.modify d λe=>{ e with key:=.int .u32 k,val:=v }) c) },?_,⟨⟨_,_,Array.getElem?_setIfInBounds_self_of_lt hlt,?_,?_,?_⟩,?_⟩,⟨rfl,rfl,by simp,λx hx hne=>Array.getElem?_setIfInBounds_ne λe=>hne (by rw[e])⟩⟩
  ·simp[Instr.mapUpdate,run_underlying ht,run_underlying hk,getObj,setObj,h1,Sem.run,Instr.findKey,hf,hc,he0,he1,Instr.keyThatStays,Instr.sameBits]
  ·rw[Array.toList_modify,qX (λe:MapEntry=>(e.key,e.val)) (λe=>{ e with key:=.int .u32 k,val:=v }) (λ_=>(Value.int .u32 k,v)) (λ_=>rfl),h2]
   exact(qX (λp:Int×Value=>(Value.int .u32 p.1,p.2)) (λ_=>(k,v)) (λ_=>(Value.int .u32 k,v)) (λ_=>rfl) _ _).symm
  ·rw[Array.toList_modify,qX MapEntry.born (λe=>{ e with key:=.int .u32 k,val:=v }) id (λ_=>rfl)]
   rw[show ∀(q:List Nat) (j:Nat),q.modify j id=q from λq j=>modify_id j q];exact h3
  ·intro e' he'
   rw[Array.toList_modify]at he';obtain⟨j,hj⟩:=mem_iff_getElem?.1 he';rw[getElem?_modify]at hj;obtain⟨e1,h5,h6⟩:=Option.map_eq_some_iff.1 hj;have:=h4 e1 (List.mem_of_getElem? h5);rw[<-h6];split<;>exact this
  ·have:(l.modify d λ_=>(k,v)).map Prod.fst=l.map Prod.fst:=by
    rw[qX (Prod.fst:Int×Value->Int) (λ_=>(k,v)) (λ_=>k) (λ_=>rfl)];refine ext_getElem? λj=>?_
    rw[getElem?_modify];by_cases hj:d=j
    ·subst hj;simp[hi]
    ·simp[hj]
   show((l.modify d λ_=>(k,v)).map Prod.fst).Nodup;rw[this];exact h.keys
end
def OW(l:List (Int×Value))(k:Int):List (Int×Value):=match idx l k with
 |some (i,_)=>l.eraseIdx i
 |none=>l
section
variable{P:Program}{w:World}{m:Nat}{l:List (Int×Value)}
theorem jT{α β:Type}(f:α->β):∀(l:List α) (i:Nat),(l.eraseIdx i).map f=(l.map f).eraseIdx i
 | [],_=>rfl
 |_::_,0=>rfl
 |x::r,i+1=>by simp[jT f r i]
theorem Ms{t ty key e:TypeId}{k:Int}(ht:P.underlying t=some (.map key e))(hk:P.underlying key=some (.int .u32))(h:mh w m l):∃w',(Builtin.delete_ #[t,key] ty #[.map (some m),.int .u32 k]).run P w=.ok (.tuple #[]) w'/\mh w' m (OW l k)/\GB (some m) w w':=by
 obtain⟨es,c,h1,h2,h3,h4⟩:=h.ex;have hf:=yo k es.toList l 0 h2;have hc:=wS (P:=P) (k:=k) (b:=es.isEmpty) hk 9999 w;simp only[Nat.reduceAdd]at hc;have hlt:=ae h1;unfold OW;rw[show idx l k=idx.go k l 0 from rfl];cases hg:idx.go k l 0 with
 |none =>
  rw[hg]at hf;refine⟨{ w with heap:=w.heap.setIfInBounds m (.map es c) },?_,⟨⟨es,c,Array.getElem?_setIfInBounds_self_of_lt hlt,h2,h3,h4⟩,h.keys⟩,⟨rfl,rfl,by simp,λx hx hne=>Array.getElem?_setIfInBounds_ne λe=>hne (by rw[e])⟩⟩;simp[Builtin.delete_,run_underlying ht,run_underlying hk,getObj,setObj,h1,Sem.run,Instr.findKey,hf,hc]
 |some q =>
  obtain⟨i,v0⟩:=q;rw[hg]at hf;refine⟨{ w with heap:=w.heap.setIfInBounds m (.map (es.eraseIdxIfInBounds i) c) },?_,⟨⟨_,_,Array.getElem?_setIfInBounds_self_of_lt hlt,?_,?_,?_⟩,?_⟩,⟨rfl,rfl,by simp,λx hx hne=>Array.getElem?_setIfInBounds_ne λe=>hne (by rw[e])⟩⟩
  ·simp[Builtin.delete_,run_underlying ht,run_underlying hk,getObj,setObj,h1,Sem.run,Instr.findKey,hf,hc]
  ·rw[Array.toList_eraseIdxIfInBounds,jT,h2]
   exact(jT _ _ _).symm
  ·rw[Array.toList_eraseIdxIfInBounds,jT]
   exact h3.sublist (eraseIdx_sublist _ _)
  ·intro e' he'
   rw[Array.toList_eraseIdxIfInBounds]at he';exact h4 e' (mem_of_mem_eraseIdx he')
  ·show((l.eraseIdx i).map Prod.fst).Nodup
   rw[jT];exact h.keys.sublist (eraseIdx_sublist _ _)
theorem Bb:∀{L:List MapEntry} {i:Nat} {e:MapEntry},(L.map MapEntry.born).Nodup->L[i]? = some e->L.filter (λx=>!(x.born == e.born))=L.eraseIdx i
 | [],_,_,_,h=>by simp at h
 |x::r,0,e,hn,h=>by
  simp only[getElem?_cons_zero,Option.some.injEq]at h;subst h;simp only[map_cons,nodup_cons]at hn;rw[filter_cons_of_neg (by simp),eraseIdx_cons_zero];exact filter_eq_self.2 λy hy=>by
   have:y.born≠x.born:=λe=>hn.1 (e▸mem_map_of_mem hy)
   simpa using this
 |x::r,i+1,e,hn,h=>by
  simp only[getElem?_cons_succ]at h;simp only[map_cons,nodup_cons]at hn;have hx:x.born≠e.born:=λq=>hn.1 (q▸mem_map_of_mem (List.mem_of_getElem? h))
  rw[filter_cons_of_pos (by simpa using hx),eraseIdx_cons_succ,Bb hn.2 h]
theorem QM(es:Array MapEntry)(seen:Array Nat)(b:Nat):(leftOf es (seen.push b)).toList=(leftOf es seen).toList.filter (λx=>!(x.born == b)):=by
 unfold leftOf;simp only[Array.toList_filter,filter_filter];congr 1
 funext x
 simp[Bool.not_or,Bool.and_comm];rw[show(x.born == b)=decide (x.born=b)from rfl]
end
theorem Mt{ρ:Operand->Value}{o:Oper}{t:TypeId}{x y z:Operand}(hop:o.op=.mapUpdate t x y z):execOp ρ o=(do Instr.mapUpdate t (ρ x) (ρ y) (ρ z);pure Next.skip):=by
 unfold execOp;rw[hop]
theorem Mv{ρ:Operand->Value}{o:Oper}{t t':TypeId}{x y:Operand}(hop:o.op=.call { callee:=.builtin .delete,args:=#[x,y],argTypes:=#[t,t'] }):execOp ρ o=(do pure (Next.value (<-Builtin.delete_ #[t,t'] o.type #[ρ x,ρ y]))):=by
 have e:execOp ρ o=builtin .delete #[t,t'] o.type (#[x,y].map λ | .const _=>true|_=>false) (#[x,y].map ρ):=by
  unfold execOp;rw[hop];rfl
 rw[e,show #[x,y].map ρ = #[ρ x,ρ y]by simp];rfl
section
variable{P:Program}{main:Bool}{D:World->World->Array Event->Prop}{X:Goroutine->World->Prop}{w:World}{b:Frame}{a:Act}{k:List Item}{cs:List Frame}{ops:Array Oper}{i:Nat}{rest:List Nat}{o:Oper}{m:Nat}{l:List (Int×Value)}
end
end
section
open Go Go.Conc
def gD(l:List (Int×Value))(k:Int):Option Value:=(idx l k).map Prod.snd
theorem wT{l:List (Int×Value)}(hn:(l.map Prod.fst).Nodup){k:Int}{v:Value}:gD l k=some v↔(k,v)∈l:=by
 unfold gD;constructor
 ·intro h
  obtain⟨⟨i,u⟩,h1,rfl⟩:=Option.map_eq_some_iff.1 h;obtain⟨d,_,h2⟩:=qf (show idx.go k l 0=some (i,u)from h1);exact List.mem_of_getElem? h2
 ·intro h
  cases hi:idx l k with
  |none=>exact absurd rfl (y9 (show idx.go k l 0=none from hi) _ h)
  |some p =>
   obtain⟨i,u⟩:=p;obtain⟨d,_,h2⟩:=qf (show idx.go k l 0=some (i,u)from hi);have h3:(k,u)∈l:=List.mem_of_getElem? h2;have:u=v:=by
    have key:∀(q:List (Int×Value)),(q.map Prod.fst).Nodup->(k,u)∈q->(k,v)∈q->u=v:=by
     intro q;induction q with
     |nil=>intro _ h;cases h
     |cons x r ih =>
      intro hn h1 h2;simp only[map_cons,nodup_cons]at hn;rcases mem_cons.1 h1 with e1|h1<;>rcases mem_cons.1 h2 with e2|h2
      ·rw[<-e1]at e2;exact(Prod.mk.inj e2).2.symm
      ·exact absurd (mem_map.2 ⟨_,h2,by rw[<-e1]⟩) hn.1
      ·exact absurd (mem_map.2 ⟨_,h1,by rw[<-e2]⟩) hn.1
      ·exact ih hn.2 h1 h2
    exact key l hn h3 h
   rw[this];rfl
theorem OX{l:List (Int×Value)}{k:Int}:gD l k=none↔∀p∈l,p.1≠k:=by
 unfold gD;rw[Option.map_eq_none_iff];constructor
 ·exact λh=>y9 (show idx.go k l 0=none from h)
 ·intro h
  cases hi:idx l k with
  |none=>rfl
  |some p =>
   obtain⟨d,_,h2⟩:=qf (show idx.go k l 0=some (p.1,p.2)from hi);exact absurd rfl (h _ (List.mem_of_getElem? h2))
theorem iQ(p:Int×Value)(r:List (Int×Value))(k:Int):gD (p::r) k=if p.1=k then some p.2 else gD r k:=by
 have go:∀(q:List (Int×Value)) (i j:Nat),(idx.go k q i).map Prod.snd=(idx.go k q j).map Prod.snd:=by
  intro q;induction q with
  |nil=>intros;rfl
  |cons x r ih =>
   intro i j;unfold idx.go;split
   ·rfl
   ·exact ih (i+1) (j+1)
 unfold gD idx;rw[idx.go];split
 ·rfl
 ·exact go r 1 0
theorem JW(a b:List (Int×Value))(k:Int):gD (a++b) k=(gD a k).or (gD b k):=by
 induction a with
 |nil=>rfl
 |cons x r ih=>rw[cons_append,iQ,iQ,ih];split<;>simp
theorem QO{l:List (Int×Value)}(hn:(l.map Prod.fst).Nodup)(k j:Int)(v:Value):gD (OV l k v) j=if j=k then some v else gD l j:=by
 unfold OV;cases hi:idx l k with
 |none =>
  dsimp only;have h0:gD l k=none:=by unfold gD;rw[hi];rfl
  rw[JW,iQ];by_cases hj:j=k
  ·subst hj;simp[h0]
  ·have:¬k=j:=λe=>hj e.symm
   rw[if_neg hj,if_neg this];show(gD l j).or none=_;simp
 |some p =>
  obtain⟨i,u⟩:=p;dsimp only;obtain⟨d,hd,h2⟩:=qf (show idx.go k l 0=some (i,u)from hi);obtain rfl:d=i:=by omega
  clear hd hi;have key:∀(q:List (Int×Value)) (d:Nat),(q.map Prod.fst).Nodup->q[d]? = some (k,u)->gD (q.modify d λ_=>(k,v)) j=if j=k then some v else gD q j:=by
   intro q;induction q with
   |nil=>intro d _ h;simp at h
   |cons x r ih =>
    intro d hn h;simp only[map_cons,nodup_cons]at hn;cases d with
    |zero =>
     simp only[getElem?_cons_zero,Option.some.injEq]at h;subst h;rw[modify_zero_cons,iQ,iQ];by_cases hj:j=k
     ·simp[hj]
     ·have:¬k=j:=λe=>hj e.symm
      simp[hj,this]
    |succ d =>
     simp only[getElem?_cons_succ]at h;rw[modify_succ_cons,iQ,iQ,ih d hn.2 h];by_cases hx:x.1=j
     ·have:¬j=k:=λe=>hn.1 (mem_map.2 ⟨_,List.mem_of_getElem? h,by rw[hx,e]⟩)
      simp[hx,this]
     ·simp[hx]
  exact key l d hn h2
theorem QP{l:List (Int×Value)}(hn:(l.map Prod.fst).Nodup)(k j:Int):gD (OW l k) j=if j=k then none else gD l j:=by
 unfold OW;cases hi:idx l k with
 |none =>
  dsimp only;have h0:gD l k=none:=by unfold gD;rw[hi];rfl
  by_cases hj:j=k
  ·subst hj;simp[h0]
  ·simp[hj]
 |some p =>
  obtain⟨i,u⟩:=p;dsimp only;obtain⟨d,hd,h2⟩:=qf (show idx.go k l 0=some (i,u)from hi);obtain rfl:d=i:=by omega
  clear hd hi;have key:∀(q:List (Int×Value)) (d:Nat),(q.map Prod.fst).Nodup->q[d]? = some (k,u)->gD (q.eraseIdx d) j=if j=k then none else gD q j:=by
   intro q;induction q with
   |nil=>intro d _ h;simp at h
   |cons x r ih =>
    intro d hn h;simp only[map_cons,nodup_cons]at hn;cases d with
    |zero =>
     simp only[getElem?_cons_zero,Option.some.injEq]at h;subst h;rw[eraseIdx_cons_zero,iQ];by_cases hj:j=k
     ·subst hj
      rw[if_pos rfl];exact OX.2 λp hp e=>hn.1 (mem_map.2 ⟨p,hp,e⟩)
     ·have:¬k=j:=λe=>hj e.symm
      simp[hj,this]
    |succ d =>
     simp only[getElem?_cons_succ]at h;rw[eraseIdx_cons_succ,iQ,iQ,ih d hn.2 h];by_cases hx:x.1=j
     ·have:¬j=k:=λe=>hn.1 (mem_map.2 ⟨_,List.mem_of_getElem? h,by rw[hx,e]⟩)
      simp[hx,this]
     ·simp[hx]
  exact key l d hn h2
def fP(w:World)(m:Nat)(f:Int->Option Value):Prop:=∃l,mh w m l/\∀k,gD l k=f k
def qg(f:Int->Option Value)(k:Int)(v:Option Value):Int->Option Value:=λj=>if j=k then v else f j
section
variable{P:Program}{w:World}{m:Nat}{f:Int->Option Value}
theorem fP.same{w':World}(h:fP w m f)(hs:cB w w'):fP w' m f:=by
 obtain⟨l,h1,h2⟩:=h;exact⟨l,h1.same hs,h2⟩
theorem fP.keep{w':World}(h:fP w m f)(hs:w'.heap[m]? = w.heap[m]?):fP w' m f:=by
 obtain⟨l,h1,h2⟩:=h;exact⟨l,h1.keep hs,h2⟩
theorem fP.lt(h:fP w m f):m<w.heap.size:=by
 obtain⟨l,⟨⟨es,c,h1,_⟩,_⟩,_⟩:=h;exact ae h1
theorem CZ{t key e:TypeId}{z:Value}{k:Int}(ht:P.underlying t=some (.map key e))(hk:P.underlying key=some (.int .u32))(hz:∀w,(zeroValue e).run P w=.ok z w)(h:fP w m f)(ok:Bool):(Instr.lookup t (.map (some m)) (.int .u32 k) ok).run P w=.ok (if ok then .tuple #[(f k).getD z,.bool (f k).isSome]else(f k).getD z) w:=by
 obtain⟨l,h1,h2⟩:=h;have e:=Mq (k:=k) ht hk hz h1;have hl:=h2 k;unfold gD at hl;cases ok with
 |true =>
  rw[e];cases hi:idx l k with
  |none=>rw[hi]at hl;simp[<-hl]
  |some p=>rw[hi]at hl;simp[<-hl]
 |false =>
  obtain⟨es,c,g1,g2,_,_⟩:=h1.ex;have hf:=yo k es.toList l 0 g2;have hc:=wS (P:=P) (k:=k) (b:=es.isEmpty) hk 9999 w;simp only[Nat.reduceAdd]at hc;have hi:idx l k=idx.go k l 0:=rfl;rw[hi]at hl;cases hg:idx.go k l 0 with
  |none =>
   rw[hg]at hf hl;simp[Instr.lookup,run_underlying ht,run_underlying hk,getObj,g1,Sem.run,hz,Instr.findKey,hf,hc,<-hl]
  |some p =>
   rw[hg]at hf hl;obtain⟨i,v⟩:=p;simp[Instr.lookup,run_underlying ht,run_underlying hk,getObj,g1,Sem.run,Instr.findKey,hf,hc,<-hl]
theorem Mw{t key e:TypeId}{k:Int}{v:Value}(ht:P.underlying t=some (.map key e))(hk:P.underlying key=some (.int .u32))(h:fP w m f):∃w',(Instr.mapUpdate t (.map (some m)) (.int .u32 k) v).run P w=.ok () w'/\fP w' m (qg f k (some v))/\GB (some m) w w':=by
 obtain⟨l,h1,h2⟩:=h;obtain⟨w',g1,g2,g3⟩:=Mr (P:=P) (k:=k) (v:=v) ht hk h1;exact⟨w',g1,⟨_,g2,λj=>by rw[QO h1.keys,qg,h2]⟩,g3⟩
theorem Mx{t ty key e:TypeId}{k:Int}(ht:P.underlying t=some (.map key e))(hk:P.underlying key=some (.int .u32))(h:fP w m f):∃w',(Builtin.delete_ #[t,key] ty #[.map (some m),.int .u32 k]).run P w=.ok (.tuple #[]) w'/\fP w' m (qg f k none)/\GB (some m) w w':=by
 obtain⟨l,h1,h2⟩:=h;obtain⟨w',g1,g2,g3⟩:=Ms (P:=P) (ty:=ty) (k:=k) ht hk h1;exact⟨w',g1,⟨_,g2,λj=>by rw[QP h1.keys,qg,h2]⟩,g3⟩
theorem OY{t ty key e:TypeId}(ht:P.underlying t=some (.map key e))(h:fP w m f):∃w',(Builtin.clear_ #[t] ty #[.map (some m)]).run P w=.ok (.tuple #[]) w'/\fP w' m (λ_=>none)/\GB (some m) w w':=by
 obtain⟨l,h1,h2⟩:=h;obtain⟨w',g1,g2,g3⟩:=OU (P:=P) (ty:=ty) ht h1;exact⟨w',g1,⟨_,g2,λ_=>rfl⟩,g3⟩
end
def nE(w:World)(it m:Nat)(l todo:List (Int×Value))(cur:Option (Int×Value)):Prop:=∃es clock since seen c0,w.heap[m]? = some (.map es clock)/\es.toList.map (λe=>(e.key,e.val))=l.map (λp=>(Value.int .u32 p.1,p.2))/\(es.toList.map MapEntry.born).Nodup/\(∀e∈es.toList,e.born<since)/\since<=c0/\since<=clock/\w.heap[it]? = some (.mapIter (some m) since seen c0)/\(leftOf es seen).toList.map (λe=>(e.key,e.val))=todo.map (λp=>(Value.int .u32 p.1,p.2))/\(l.map Prod.fst).Nodup/\∀p,cur=some p->c0=clock/\∃e∈es.toList,seen.back? = some e.born/\e.key=.int .u32 p.1/\e.val=p.2
section
variable{P:Program}{w w':World}{it m:Nat}{l todo:List (Int×Value)}{cur:Option (Int×Value)}
theorem nE.keep(h:nE w it m l todo cur)(h1:w'.heap[it]? = w.heap[it]?)(h2:w'.heap[m]? = w.heap[m]?):nE w' it m l todo cur:=by
 unfold nE at h |-;rw[h1,h2];exact h
theorem nE.ne(h:nE w it m l todo cur):it≠m:=by
 obtain⟨es,clock,since,seen,c0,h1,_,_,_,_,_,h7,_⟩:=h;rintro rfl;rw[h1]at h7;cases h7
theorem nE.map(h:nE w it m l todo cur):mh w m l:=by
 obtain⟨es,clock,since,seen,c0,h1,h2,h3,h4,h5,h6,h7,h8,h9,_⟩:=h;exact⟨⟨es,clock,h1,h2,h3,λe he=>Nat.lt_of_lt_of_le (h4 e he) h6⟩,h9⟩
theorem OZ{t key e:TypeId}(ht:P.underlying t=some (.map key e))(h:mh w m l):∃o,(Instr.range t (.map (some m))).run P w=.ok (.pointer (some ⟨w.heap.size,0,none⟩)) (w.alloc o)/\nE (w.alloc o) w.heap.size m l l none:=by
 obtain⟨es,c,h1,h2,h3,h4⟩:=h.ex;refine⟨.mapIter (some m) c #[] c,?_,es,c,c,#[],c,(alloc_old (ae h1) _).trans h1,h2,h3,h4,Nat.le_refl _,Nat.le_refl _,iW _ _,?_,h.keys,nofun⟩
 ·simp[Instr.range,run_underlying ht,getObj,h1,Sem.run]
 ·have:leftOf es #[]=es:=by unfold leftOf;simp
  rw[this];exact h2
theorem QQ{ty:TypeId}(h:nE w it m l todo cur) :
 (todo=[]/\(Instr.next (.pointer (some ⟨it,0,none⟩)) false ty).run P w=.ok (.tuple #[.bool false]) w) \/
 ∃i p w',todo[i]? = some p/\(Instr.next (.pointer (some ⟨it,0,none⟩)) false ty).run P w=.ok (.tuple #[.bool true,.int .u32 p.1,p.2]) w'/\nE w' it m l (todo.eraseIdx i) (some p)/\GB (some it) w w':=by
 have hne:=h.ne;obtain⟨es,clock,since,seen,c0,h1,h2,h3,h4,h5,h6,h7,h8,h9,_⟩:=h;rcases run_next_at (P:=P) w ty it m since c0 seen es clock h7 h1 h4 h5 with⟨ha,hb⟩|⟨e,he,w1,hw,hr⟩
 ·refine .inl ⟨?_,hb⟩
  have:(leftOf es seen).toList=[]:=by
   have:(leftOf es seen).toList.length=0:=by simpa using ha
   exact eq_nil_of_length_eq_zero this
  rw[this]at h8;simpa using h8.symm
 ·obtain⟨i,hi⟩:=mem_iff_getElem?.1 he
  have hk:=congrArg (λq=>q[i]?) h8;simp only[getElem?_map,hi,Option.map_some]at hk;obtain⟨p,hp1,hp2⟩:=Option.map_eq_some_iff.1 hk.symm;simp only[Prod.mk.injEq]at hp2;have hes:e∈es.toList:=by unfold leftOf at he;simp only[Array.toList_filter,mem_filter]at he;exact he.1
  rw[<-hp2.1,<-hp2.2]at hr;have hw1:w1.heap=w.heap/\w1.os=w.os/\w1.output=w.output:=by rcases hw with rfl|rfl<;>exact⟨rfl,rfl,rfl⟩
  have hlt:=ae h7;refine .inr ⟨i,p,_,hp1,hr,⟨es,clock,since,seen.push e.born,clock,?_,h2,h3,h4,h6,h6,?_,?_,h9,?_⟩,⟨hw1.2.1,hw1.2.2,?_,λx hx hne=>?_⟩⟩
  ·show(w1.heap.setIfInBounds it _)[m]? = _
   rw[Array.getElem?_setIfInBounds_ne hne,hw1.1];exact h1
  ·show(w1.heap.setIfInBounds it _)[it]? = _
   rw[Array.getElem?_setIfInBounds_self_of_lt (by rw[hw1.1];exact hlt)]
  ·rw[QM,Bb ?_ hi,jT,h8]
   ·exact(jT _ _ _).symm
   ·unfold leftOf
    rw[Array.toList_filter];exact h3.sublist ((filter_sublist).map _)
  ·intro q hq
   cases hq
   exact⟨rfl,e,hes,by simp,hp2.1.symm,hp2.2.symm⟩
  ·show w.heap.size<=(w1.heap.setIfInBounds it _).size
   simp[hw1.1]
  ·show(w1.heap.setIfInBounds it _)[x]? = _
   rw[Array.getElem?_setIfInBounds_ne (λe=>hne (by rw[e])),hw1.1]
theorem find_born:∀{L:List MapEntry} {e:MapEntry},(L.map MapEntry.born).Nodup->e∈L->L.find? (λx=>x.born == e.born)=some e
 | [],_,_,h=>by cases h
 |x::r,e,hn,h=>by
  simp only[map_cons,nodup_cons]at hn;rcases mem_cons.1 h with rfl|h
  ·simp
  ·have:x.born≠e.born:=λq=>hn.1 (q▸mem_map_of_mem h)
   rw[find?_cons_of_neg (by simpa using this)];exact find_born hn.2 h
theorem O0{p:Int×Value}(h:nE w it m l todo (some p)):(Instr.entry (.pointer (some ⟨it,0,none⟩))).run P w=.ok (.tuple #[.int .u32 p.1,p.2]) w:=by
 obtain⟨es,clock,since,seen,c0,h1,h2,h3,h4,h5,h6,h7,h8,h9,h10⟩:=h;obtain⟨rfl,e,he,hb,hk,hv⟩:=h10 p rfl;have hf:es.find? (λx=>x.born == e.born)=some e:=by rw[<-Array.find?_toList];exact find_born h3 he
 simp[Instr.entry,getObj,h7,h1,Sem.run,hb,hf,hk,hv]
end
end
section
open Go
def aW{α:Type}(P:Program):Sem α->Option α
 |.pure a=>some a
 |.program k=>aW P (k P)
 |_=>none
theorem H8{α:Type}{P:Program}{s:Sem α}{a:α}(h:aW P s=some a)(w:World)(es:Array Event):s.runT P w es=(.ok a w,es):=by
 induction s with
 |pure b=>simp only[aW,Option.some.injEq]at h;subst h;rfl
 |program k ih=>exact ih P h
 |_=>cases h
theorem iR{α:Type}{P:Program}{s:Sem α}{a:α}(h:aW P s=some a)(w:World):s.run P w=.ok a w:=by
 rw[<-Sem.runT_fst P s w #[],H8 h]
theorem H9{α:Type}{P:Program}{s:Sem α}{a:α}(h:aW P s=some a)(w:World):s.events P w #[] = #[]:=by
 unfold Sem.events;rw[H8 h]
theorem aF{α β:Type}(P:Program)(s:Sem α)(f:α->Sem β):aW P (s >>= f)=(aW P s).bind λa=>aW P (f a):=by
 change aW P (s.bind f)=_;induction s with
 |pure b=>rfl
 |program k ih=>exact ih P
 |_=>rfl
theorem aH{α:Type}(P:Program)(a:α):aW P (pure a:Sem α)=some a:=rfl
theorem bA{P:Program}{t:TypeId}{d:TypeDesc}(h:P.underlying t=some d):aW P (underlying t)=some d:=by
 show aW P (match P.underlying t with | some d => pure d | none => stuck "no such type") = _;rw [h];rfl
theorem C8{P:Program}{t:TypeId}{i:TypeInfo}(h:P.info? t=some i):aW P (typeInfo t)=some i:=by
 show aW P (match P.info? t with | some i => pure i | none => stuck "no such type") = _;rw [h];rfl
theorem gZ{P:Program}{t:TypeId}{i:TypeInfo}(h:P.info? t=some i):aW P (sizeOf t)=some i.size:=by
 unfold sizeOf;rw[aF,C8 h];rfl
theorem tJ{P:Program}{t:TypeId}{i:TypeInfo}{z:Value}(h:P.info? t=some i)(hz:i.zero=some z):aW P (zeroValue t)=some z:=by
 unfold zeroValue;rw[aF,C8 h];show aW P (match i.zero with|some v=>pure v|none=>_)=_;rw[hz];rfl
inductive Ty where
 |i (k:IntKind)|o|t|p|f|l (e:Nat)|m (k v:Nat)|s (fs:List Nat)
abbrev iY:=List (Nat×Ty)
noncomputable def iY.get(T:iY)(t:Nat):Option Ty:=rec none (λp _ ih=>bif Nat.beq t p.1 then some p.2 else ih) T
theorem iY.Uo(u:Nat)(x:Ty)(r:iY)(t:Nat):iY.get ((u,x)::r) t=bif Nat.beq t u then some x else iY.get r t:=rfl
noncomputable def Wi(T:iY):Nat->Nat->List Value
 |0,_=>[]
 |n+1,t=>match T.get t with
  |none=>[]
  |some (.i k)=>[.int k 0]
  |some .o=>[.bool false]
  |some .t=>[.string ⟨#[]⟩]
  |some .p=>[.pointer none]
  |some .f=>[.nilFunc]
  |some (.l _)=>[.slice none 0 0]
  |some (.m _ _)=>[.map none]
  |some (.s fs)=>fs.flatMap (Wi T n)
noncomputable def zc(T:iY)(t:Nat):List Value:=Wi T 6 t
noncomputable def bD(T:iY)(t:Nat):Nat:=(zc T t).length
noncomputable def qY(T:iY):List Nat->Nat->List (Nat×Nat)
 | [],_=>[]
 |t::ts,o=>(o,t)::qY T ts (o+bD T t)
inductive Dk where
 |i (k:IntKind)|o|t|p|f|l (e:Nat)|m (k v:Nat)|s (fs:List (Nat×Nat×Bool))|no
def dk:TypeDesc->Dk
 |.int k=>.i k
 |.bool=>.o
 |.string=>.t
 |.pointer _=>.p
 |.func _ _ _=>.f
 |.slice e=>.l e
 |.map k v=>.m k v
 | .struct fs => .s (fs.toList.map fun f => (f.offset, f.type, f.name == "_"))
 |_=>.no
noncomputable def Wj(T:iY):Ty->Dk
 |.i k=>.i k
 |.o=>.o
 |.t=>.t
 |.p=>.p
 |.f=>.f
 |.l e=>.l e
 |.m k v=>.m k v
 |.s fs=>.s ((qY T fs 0).map λp=>(p.1,p.2,false))
def kI:Ty->Bool
 |.s _=>true
 |_=>false
noncomputable def zv(T:iY)(t:Nat)(x:Ty):Value:=match kI x,zc T t with
 |false,v::_=>v
 |_,l=>.agg l.toArray
structure qh(P:Program)(T:iY):Prop where
 eq:(T.map λp=>((P.info? p.1).map λi=>(i.zero,i.size,decide (i.bytes<=2400)),(P.underlying p.1).map dk))=T.map λp=>(some (some (zv T p.1 p.2),bD T p.1,true),some (Wj T p.2))
section
variable{P:Program}{T:iY}
theorem iY.mem{T:iY}{t:Nat}{x:Ty}(h:T.get t=some x):(t,x)∈T:=by
 induction T with
 |nil=>cases h
 |cons p r ih =>
  obtain⟨u,y⟩:=p;rw[iY.Uo]at h;cases hb:Nat.beq t u with
  |true =>
   rw[hb]at h;have:=Nat.eq_of_beq_eq_true hb;simp only[cond_true,Option.some.injEq]at h;subst this h;exact mem_cons_self
  |false=>rw[hb]at h;exact mem_cons_of_mem _ (ih h)
structure Uq(P:Program)(T:iY)(t:Nat)(x:Ty)(i:TypeInfo)(d:TypeDesc):Prop where
 info:P.info? t=some i
 zero:i.zero=some (zv T t x)
 size:i.size=bD T t
 bytes:i.bytes<=2400
 under:P.underlying t=some d
 kind:dk d=Wj T x
theorem qh.is(h:qh P T){t:Nat}{x:Ty}(hx:T.get t=some x):∃i d,Uq P T t x i d:=by
 have h1:=map_inj_left.1 h.eq (t,x) (iY.mem hx);dsimp only at h1;cases hi:P.info? t with
 |none=>rw[hi]at h1;simp at h1
 |some i =>
  cases hu:P.underlying t with
  |none=>rw[hu]at h1;simp at h1
  |some d =>
   rw[hi,hu]at h1;simp only[Option.map_some,Prod.mk.injEq,Option.some.injEq,decide_eq_true_eq]at h1;obtain⟨⟨h2,h3,h4⟩,h5⟩:=h1;exact⟨i,d,hi,h2,h3,h4,hu,h5⟩
theorem Bc{d:TypeDesc}{k:IntKind}(h:dk d=.i k):d=.int k:=by cases d<;>simp_all [dk]
theorem JX{d:TypeDesc}(h:dk d=.o):d=.bool:=by cases d<;>simp_all [dk]
theorem za{d:TypeDesc}(h:dk d=.t):d=.string:=by cases d<;>simp_all [dk]
theorem O3{d:TypeDesc}(h:dk d=.p):∃e,d=.pointer e:=by cases d<;>simp_all [dk]
theorem Zt{d:TypeDesc}(h:dk d=.f):∃a b c,d=.func a b c:=by cases d<;>simp_all [dk]
theorem nN{d:TypeDesc}{e:Nat}(h:dk d=.l e):d=.slice e:=by cases d<;>simp_all [dk]
theorem Ur{d:TypeDesc}{k v:Nat}(h:dk d=.m k v):d=.map k v:=by cases d<;>simp_all [dk]
theorem JY {d : TypeDesc} {l : List (Nat × Nat × Bool)} (h : dk d = .s l) : ∃ fs, d = .struct fs ∧ fs.toList.map (fun f => (f.offset, f.type, f.name == "_")) = l := by cases d <;> simp_all [dk]
theorem O4(h:qh P T){t:Nat}{x:Ty}(hx:T.get t=some x):aW P (isAgg t)=some (kI x):=by
 obtain⟨i,d,hd⟩:=h.is hx;unfold isAgg;rw[aF,bA hd.under];have hk:=hd.kind;cases x<;>simp only[Wj]at hk
 ·rw[Bc hk];rfl
 ·rw[JX hk];rfl
 ·rw[za hk];rfl
 ·obtain⟨_,rfl⟩:=O3 hk;rfl
 ·obtain⟨_,_,_,rfl⟩:=Zt hk;rfl
 ·rw[nN hk];rfl
 ·rw[Ur hk];rfl
 ·obtain⟨_,rfl,_⟩:=JY hk;rfl
end
end
