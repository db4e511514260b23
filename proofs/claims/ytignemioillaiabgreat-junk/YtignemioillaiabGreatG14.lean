/- An operation that is not wanted; an append, whoever owns the row. -/
import Derived.Test.YtignemioillaiabGreatG13
import Derived.Maps.RangeRun
import Derived.IntWalk
namespace Go.Proofs.YtignemioillaiabGreat
set_option maxHeartbeats 8000000
set_option maxRecDepth 100000
section
open Go Go.Conc Go.RowKit
section
variable {P:Program} {main:Bool} {D:World->World->Array Event->Prop} {X:Goroutine->World->Prop} {w:World} {b:Frame} {a:Act} {k:List Item} {cs:List Frame} {ops:Array Oper} {i:Nat} {rest:List Nat} {o:Oper}
theorem aI.unw (hX:aI P main X) (ho:ops[i]? = some o) (hw:Region.wanted o (yielded ops a.tmps)=false) (h:X (G (b.at (a.put o.dst undef) (.inRegion ops rest::k)) cs) w):X (G (b.at a (.inRegion ops (i::rest)::k)) cs) w :=
 hX.go rfl (λ _=>stepG_unwanted ho hw) h
theorem KD {s x:Operand} {t:TypeId} (hop:o.op=.call { callee:=.builtin .append,args:=#[s,x],argTypes:=#[t,t] })
 (e:TypeId) (ii:TypeInfo) (z:Value) (size bytes:Nat) (ht:P.underlying t=some (.slice e)) (hi:P.info? e=some ii) (hz:ii.zero=some z) (hsize:ii.size=size) (hby:ii.bytes=bytes) (hzs:z.cells.size=size) (hsz:0<size)
 {v:Value} {n:Nat} {xs:List Value} (hs:a.eval s=v) (hown:w.ownsRow 0 e size v n xs) {B m c:Nat} {news:List Value} {off:Nat} (hx:a.eval x=.slice (some ⟨B,off,none⟩) m c) {nb:Array Value} {tb:TypeId} (hW:w.heap[B]? = some (.cells nb tb)) (hnb:(nb.toList.drop off).take (m*size)=news) (hl:news.length=m*size) (h1:∀ u∈news,u.oneCell'=true)
 (h63:n+m<=maxLen) (hbytes:(n+m)*bytes<=140737488355328):∃ v' w',(execOp a.eval o).run P w=.ok (.value v') w'/\w'.ownsRow 0 e size v' (n+m) (xs++news)/\GB v.ownBlock w w'/\(∀ g,v'.ownBlock=some g->v.ownBlock=some g\/w.heap.size<=g)/\∀ g c',v=.slice (some ⟨g,0,none⟩) n c'->n+m<=c'->v'=.slice (some ⟨g,0,none⟩) (n+m) c':=by
 have hnews:∀ j u,news[j]? = some u->w.cell? ((⟨B,off,none⟩:Addr).add j)=some u:=λ j u hu=>by
  have hadd:(⟨B,off,none⟩:Addr).add j=⟨B,off+j,none⟩:=by unfold Addr.add;split <;> simp_all
  rw [hadd,xW hW];rw [<- hnb,List.getElem?_take] at hu;split at hu
  ·rw [List.getElem?_drop] at hu;simpa using hu
  ·cases hu
 obtain ⟨v',w',hrun,ho',hg⟩:=xm (P:=P) w 0 t o.type e ii z size bytes ht hi hz hsize hby hzs hsz v n xs hown ⟨B,off,none⟩ m c news hl hnews h1 h63 hbytes (Nat.zero_le _);refine ⟨v',w',?_,ho',⟨hg.grown.os,hg.grown.output,hg.grown.size,λ y hy hne=>hg.grown.block y hy hne⟩,λ g hgo=>?_,λ g c' hv hroom=>?_⟩
 ·have hh:=uponK_append (P:=P) s x t hop hs hx hrun (K:=λ a' w''=>a'=a.put o.dst v'/\w''=w') ⟨rfl,rfl⟩
  have e1:execOp a.eval o=builtin .append #[t,t] o.type (#[s,x].map λ | .const _=>true | _=>false) (#[s,x].map a.eval):=by
   unfold execOp;rw [hop];rfl
  rw [e1];simp only [List.map_toArray,List.map_cons,List.map_nil,hs,hx];unfold builtin;simp only [Sem.run_bind];simp [hrun]
 ·rcases hg.own with he | he
  ·exact .inl (he ▸ hgo)
  ·exact .inr (he g hgo)
 ·subst hsize
  rcases hown.2 with ⟨e0,_⟩ | ⟨g2,cap,cur,e2,_,hg2,_,_,hcs,_⟩
  ·rw [hv] at e0;cases e0
  ·rw [hv] at e2
   injection e2 with e3 _ e4;injection e3 with e3;injection e3 with e3;subst e3;subst e4;have hr:=run_append_room (P:=P) w t o.type e ii ht hi g n c' cur hg2 ⟨B,off,none⟩ m c news hl hnews h1 hroom (by rw [hl,hcs,<- Nat.add_mul];exact Nat.mul_le_mul_right _ hroom);rw [hv,hr] at hrun;injection hrun with hrun;exact hrun.symm
end
structure kT (w:World) (m:Nat) (l:List (Int×Value)):Prop where
 ex:∃ es clock,w.heap[m]? = some (.map es clock)/\es.toList.map (λ e=>(e.key,e.val))=l.map (λ p=>(Value.int .u32 p.1,p.2))/\(es.toList.map MapEntry.born).Nodup/\∀ e∈es.toList,e.born<clock
 keys:(l.map Prod.fst).Nodup
theorem kT.same {w w':World} {m:Nat} {l:List (Int×Value)} (h:kT w m l) (hs:cu w w'):kT w' m l:=by
 obtain ⟨es,c,h1,h2⟩:=h.ex;exact ⟨⟨es,c,by rw [hs.heap];exact h1,h2⟩,h.keys⟩
theorem kT.keep {w w':World} {m:Nat} {l:List (Int×Value)} (h:kT w m l) (hs:w'.heap[m]? = w.heap[m]?):kT w' m l:=by
 obtain ⟨es,c,h1,h2⟩:=h.ex;exact ⟨⟨es,c,by rw [hs];exact h1,h2⟩,h.keys⟩
theorem XP.acO {w:World} {m:Nat} (h:XP w m):kT w m []:=⟨⟨#[],0,h,rfl,List.nodup_nil,by simp⟩,List.nodup_nil⟩
def idx (l:List (Int×Value)) (k:Int):Option (Nat×Value):=go l 0
where go:List (Int×Value)->Nat->Option (Nat×Value)
 | [],_=>none
 | p::r,i=>if p.1=k then some (i,p.2) else go r (i+1)
theorem xq (k:Int):∀ (es:List MapEntry) (l:List (Int×Value)) (i:Nat),es.map (λ e=>(e.key,e.val))=l.map (λ p=>(Value.int .u32 p.1,p.2))->Instr.findNow (.int .u32) (.int .u32 k) es i=some (idx.go k l i)
 | [],l,i,h=>by
  cases l with
  | nil=>rfl
  | cons p r=>simp at h
 | e::es,l,i,h=>by
  cases l with
  | nil=>simp at h
  | cons p r =>
   simp only [List.map_cons,List.cons.injEq,Prod.mk.injEq] at h;obtain ⟨⟨h1,h2⟩,h3⟩:=h;unfold Instr.findNow idx.go;rw [h1,h2];by_cases hk:p.1=k
   ·simp [Instr.sameNow,hk]
   ·have:¬ k=p.1:=λ e=>hk e.symm
    simp only [Instr.sameNow,if_true,beq_eq_false_iff_ne.2 this,hk,if_false];exact xq k es r (i+1) h3
section
variable {P:Program} {w:World} {m:Nat} {l:List (Int×Value)}
theorem KE {t key e:TypeId} {z:Value} {k:Int} (ht:P.underlying t=some (.map key e)) (hk:P.underlying key=some (.int .u32)) (hz:∀ w,(zeroValue e).run P w=.ok z w) (h:kT w m l):(Instr.lookup t (.map (some m)) (.int .u32 k) true).run P w=.ok (match idx l k with | some (_,v)=>.tuple #[v,.bool true] | none=>.tuple #[z,.bool false]) w:=by
 obtain ⟨es,c,h1,h2,_,_⟩:=h.ex;have hf:=xq k es.toList l 0 h2;have hc:=vJ (P:=P) (k:=k) (b:=es.isEmpty) hk 9999 w;simp only [Nat.reduceAdd] at hc;have hi:idx l k=idx.go k l 0:=rfl;rw [hi];cases hg:idx.go k l 0 with
 | none =>
  rw [hg] at hf;simp [Instr.lookup,run_underlying ht,run_underlying hk,getObj,h1,Sem.run,hz,Instr.findKey,hf,hc]
 | some p =>
  rw [hg] at hf;obtain ⟨i,v⟩:=p;simp [Instr.lookup,run_underlying ht,run_underlying hk,getObj,h1,Sem.run,Instr.findKey,hf,hc]
theorem Nr {t ty key e:TypeId} (ht:P.underlying t=some (.map key e)) (h:kT w m l):∃ w',(Builtin.clear_ #[t] ty #[.map (some m)]).run P w=.ok (.tuple #[]) w'/\kT w' m []/\GB (some m) w w':=by
 obtain ⟨es,c,h1,h2,_,_⟩:=h.ex;refine ⟨{ w with heap:=w.heap.setIfInBounds m (.map #[] c) },?_,⟨⟨#[],c,?_,rfl,List.nodup_nil,by simp⟩,List.nodup_nil⟩,⟨rfl,rfl,by simp,λ x hx hne=>?_⟩⟩
 ·simp [Builtin.clear_,run_underlying ht,getObj,setObj,h1,Sem.run]
 ·exact Array.getElem?_setIfInBounds_self_of_lt (ag h1)
 ·exact Array.getElem?_setIfInBounds_ne λ e=>hne (by rw [e])
def Ns (l:List (Int×Value)) (k:Int) (v:Value):List (Int×Value):=match idx l k with
 | some (i,_)=>l.modify i λ _p=>(k,v)
 | none=>l++[(k,v)]
theorem oK {k:Int}:∀ {l:List (Int×Value)} {i j:Nat} {v:Value},idx.go k l i=some (j,v)->∃ d,j=i+d/\l[d]? = some (k,v)
 | [],_,_,_,h=>by simp [idx.go] at h
 | p::r,i,j,v,h=>by
  unfold idx.go at h;split at h
  ·rename_i hk
   cases h
   exact ⟨0,rfl,by simp [<- hk]⟩
  ·obtain ⟨d,h1,h2⟩:=oK h
   exact ⟨d+1,by omega,by simpa using h2⟩
theorem xZ {k:Int}:∀ {l:List (Int×Value)} {i:Nat},idx.go k l i=none->∀ p∈l,p.1≠k
 | [],_,_,p,hp=>by simp at hp
 | q::r,i,h,p,hp=>by
  unfold idx.go at h;split at h
  ·cases h
  ·rename_i hk
   rcases List.mem_cons.1 hp with rfl | hp
   ·exact hk
   ·exact xZ h p hp
theorem p8 {α β:Type} (f:α->β) (g:α->α) (g':β->β) (hfg:∀ x,f (g x)=g' (f x)):∀ (l:List α) (i:Nat),(l.modify i g).map f=(l.map f).modify i g'
 | [],_=>by simp
 | x::r,0=>by simp [hfg]
 | x::r,i+1=>by simpa using p8 f g g' hfg r i
theorem KF {t key e:TypeId} {k:Int} {v:Value} (ht:P.underlying t=some (.map key e)) (hk:P.underlying key=some (.int .u32)) (h:kT w m l):∃ w',(Instr.mapUpdate t (.map (some m)) (.int .u32 k) v).run P w=.ok () w'/\kT w' m (Ns l k v)/\GB (some m) w w':=by
 obtain ⟨es,c,h1,h2,h3,h4⟩:=h.ex;have hf:=xq k es.toList l 0 h2;have hc:=vJ (P:=P) (k:=k) (b:=false) hk 9999 w;simp only [Nat.reduceAdd] at hc;have hlt:=ag h1;unfold Ns;rw [show idx l k=idx.go k l 0 from rfl];cases hg:idx.go k l 0 with
 | none =>
  rw [hg] at hf;refine ⟨{ w with heap:=w.heap.setIfInBounds m (.map (es.push { key:=.int .u32 k,val:=v,born:=c }) (c+1)) },?_,⟨⟨_,_,Array.getElem?_setIfInBounds_self_of_lt hlt,?_,?_,?_⟩,?_⟩,⟨rfl,rfl,by simp,λ x hx hne=>Array.getElem?_setIfInBounds_ne λ e=>hne (by rw [e])⟩⟩
  ·simp [Instr.mapUpdate,run_underlying ht,run_underlying hk,getObj,setObj,h1,Sem.run,Instr.findKey,hf,hc]
  ·simp [h2]
  ·simp only [Array.toList_push,List.map_append,List.map_cons,List.map_nil]
   refine List.nodup_append.2 ⟨h3,by simp,?_⟩;intro a ha b hb;simp only [List.mem_cons,List.not_mem_nil,or_false] at hb;obtain ⟨e',he,rfl⟩:=List.mem_map.1 ha;have:=h4 e' he;omega
  ·intro e' he
   simp only [Array.toList_push,List.mem_append,List.mem_cons,List.not_mem_nil,or_false] at he;rcases he with he | rfl
   ·have:=h4 e' he;omega
   ·exact Nat.lt_succ_self _
  ·simp only [List.map_append,List.map_cons,List.map_nil]
   refine List.nodup_append.2 ⟨h.keys,by simp,?_⟩;intro a ha b hb;simp only [List.mem_cons,List.not_mem_nil,or_false] at hb;obtain ⟨p,hp,rfl⟩:=List.mem_map.1 ha;rw [hb];exact xZ hg p hp
 | some q =>
  obtain ⟨i,v0⟩:=q;rw [hg] at hf;obtain ⟨d,hd,hi⟩:=oK hg;obtain rfl:d=i:=by omega
  have hes:∃ e0,es[d]? = some e0/\e0.key=.int .u32 k:=by
   have:=congrArg (λ q=>q[d]?) h2;simp only [List.getElem?_map,hi,Option.map_some] at this;obtain ⟨e0,he0,he1⟩:=Option.map_eq_some_iff.1 this;exact ⟨e0,by simpa using he0,by simpa using congrArg Prod.fst he1⟩
  obtain ⟨e0,he0,he1⟩:=hes;refine ⟨{ w with heap:=w.heap.setIfInBounds m (.map (es.modify d λ e=>{ e with key:=.int .u32 k,val:=v }) c) },?_,⟨⟨_,_,Array.getElem?_setIfInBounds_self_of_lt hlt,?_,?_,?_⟩,?_⟩,⟨rfl,rfl,by simp,λ x hx hne=>Array.getElem?_setIfInBounds_ne λ e=>hne (by rw [e])⟩⟩
  ·simp [Instr.mapUpdate,run_underlying ht,run_underlying hk,getObj,setObj,h1,Sem.run,Instr.findKey,hf,hc,he0,he1,Instr.keyThatStays,Instr.sameBits]
  ·rw [Array.toList_modify,p8 (λ e:MapEntry=>(e.key,e.val)) (λ e=>{ e with key:=.int .u32 k,val:=v }) (λ _=>(Value.int .u32 k,v)) (λ _=>rfl),h2]
   exact (p8 (λ p:Int×Value=>(Value.int .u32 p.1,p.2)) (λ _=>(k,v)) (λ _=>(Value.int .u32 k,v)) (λ _=>rfl) _ _).symm
  ·rw [Array.toList_modify,p8 MapEntry.born (λ e=>{ e with key:=.int .u32 k,val:=v }) id (λ _=>rfl)]
   rw [show ∀ (q:List Nat) (j:Nat),q.modify j id=q from λ q j=>List.modify_id j q];exact h3
  ·intro e' he'
   rw [Array.toList_modify] at he';obtain ⟨j,hj⟩:=List.mem_iff_getElem?.1 he';rw [List.getElem?_modify] at hj;obtain ⟨e1,h5,h6⟩:=Option.map_eq_some_iff.1 hj;have:=h4 e1 (List.mem_of_getElem? h5);rw [<- h6];split <;> exact this
  ·have:(l.modify d λ _=>(k,v)).map Prod.fst=l.map Prod.fst:=by
    rw [p8 (Prod.fst:Int×Value->Int) (λ _=>(k,v)) (λ _=>k) (λ _=>rfl)];refine List.ext_getElem? λ j=>?_
    rw [List.getElem?_modify];by_cases hj:d=j
    ·subst hj;simp [hi]
    ·simp [hj]
   show ((l.modify d λ _=>(k,v)).map Prod.fst).Nodup;rw [this];exact h.keys
end
def Nt (l:List (Int×Value)) (k:Int):List (Int×Value):=match idx l k with
 | some (i,_)=>l.eraseIdx i
 | none=>l
section
variable {P:Program} {w:World} {m:Nat} {l:List (Int×Value)}
theorem jy {α β:Type} (f:α->β):∀ (l:List α) (i:Nat),(l.eraseIdx i).map f=(l.map f).eraseIdx i
 | [],_=>rfl
 | _::_,0=>rfl
 | x::r,i+1=>by simp [jy f r i]
theorem KG {t ty key e:TypeId} {k:Int} (ht:P.underlying t=some (.map key e)) (hk:P.underlying key=some (.int .u32)) (h:kT w m l):∃ w',(Builtin.delete_ #[t,key] ty #[.map (some m),.int .u32 k]).run P w=.ok (.tuple #[]) w'/\kT w' m (Nt l k)/\GB (some m) w w':=by
 obtain ⟨es,c,h1,h2,h3,h4⟩:=h.ex;have hf:=xq k es.toList l 0 h2;have hc:=vJ (P:=P) (k:=k) (b:=es.isEmpty) hk 9999 w;simp only [Nat.reduceAdd] at hc;have hlt:=ag h1;unfold Nt;rw [show idx l k=idx.go k l 0 from rfl];cases hg:idx.go k l 0 with
 | none =>
  rw [hg] at hf;refine ⟨{ w with heap:=w.heap.setIfInBounds m (.map es c) },?_,⟨⟨es,c,Array.getElem?_setIfInBounds_self_of_lt hlt,h2,h3,h4⟩,h.keys⟩,⟨rfl,rfl,by simp,λ x hx hne=>Array.getElem?_setIfInBounds_ne λ e=>hne (by rw [e])⟩⟩;simp [Builtin.delete_,run_underlying ht,run_underlying hk,getObj,setObj,h1,Sem.run,Instr.findKey,hf,hc]
 | some q =>
  obtain ⟨i,v0⟩:=q;rw [hg] at hf;refine ⟨{ w with heap:=w.heap.setIfInBounds m (.map (es.eraseIdxIfInBounds i) c) },?_,⟨⟨_,_,Array.getElem?_setIfInBounds_self_of_lt hlt,?_,?_,?_⟩,?_⟩,⟨rfl,rfl,by simp,λ x hx hne=>Array.getElem?_setIfInBounds_ne λ e=>hne (by rw [e])⟩⟩
  ·simp [Builtin.delete_,run_underlying ht,run_underlying hk,getObj,setObj,h1,Sem.run,Instr.findKey,hf,hc]
  ·rw [Array.toList_eraseIdxIfInBounds,jy,h2]
   exact (jy _ _ _).symm
  ·rw [Array.toList_eraseIdxIfInBounds,jy]
   exact h3.sublist (List.eraseIdx_sublist _ _)
  ·intro e' he'
   rw [Array.toList_eraseIdxIfInBounds] at he';exact h4 e' (List.mem_of_mem_eraseIdx he')
  ·show ((l.eraseIdx i).map Prod.fst).Nodup
   rw [jy];exact h.keys.sublist (List.eraseIdx_sublist _ _)
theorem zX:∀ {L:List MapEntry} {i:Nat} {e:MapEntry},(L.map MapEntry.born).Nodup->L[i]? = some e->L.filter (λ x=>!(x.born == e.born))=L.eraseIdx i
 | [],_,_,_,h=>by simp at h
 | x::r,0,e,hn,h=>by
  simp only [List.getElem?_cons_zero,Option.some.injEq] at h;subst h;simp only [List.map_cons,List.nodup_cons] at hn;rw [List.filter_cons_of_neg (by simp),List.eraseIdx_cons_zero];exact List.filter_eq_self.2 λ y hy=>by
   have:y.born≠x.born:=λ e=>hn.1 (e ▸ List.mem_map_of_mem hy)
   simpa using this
 | x::r,i+1,e,hn,h=>by
  simp only [List.getElem?_cons_succ] at h;simp only [List.map_cons,List.nodup_cons] at hn;have hx:x.born≠e.born:=λ q=>hn.1 (q ▸ List.mem_map_of_mem (List.mem_of_getElem? h))
  rw [List.filter_cons_of_pos (by simpa using hx),List.eraseIdx_cons_succ,zX hn.2 h]
theorem Pn (es:Array MapEntry) (seen:Array Nat) (b:Nat):(leftOf es (seen.push b)).toList=(leftOf es seen).toList.filter (λ x=>!(x.born == b)):=by
 unfold leftOf;simp only [Array.toList_filter,List.filter_filter];congr 1
 funext x
 simp [Bool.not_or,Bool.and_comm];rw [show (x.born == b)=decide (x.born=b) from rfl]
end
theorem KH {ρ:Operand->Value} {o:Oper} {t:TypeId} {x y z:Operand} (hop:o.op=.mapUpdate t x y z):execOp ρ o=(do Instr.mapUpdate t (ρ x) (ρ y) (ρ z);pure Next.skip):=by
 unfold execOp;rw [hop]
theorem KI {ρ:Operand->Value} {o:Oper} {t t':TypeId} {x y:Operand} (hop:o.op=.call { callee:=.builtin .delete,args:=#[x,y],argTypes:=#[t,t'] }):execOp ρ o=(do pure (Next.value (<- Builtin.delete_ #[t,t'] o.type #[ρ x,ρ y]))):=by
 have e:execOp ρ o=builtin .delete #[t,t'] o.type (#[x,y].map λ | .const _=>true | _=>false) (#[x,y].map ρ):=by
  unfold execOp;rw [hop];rfl
 rw [e,show #[x,y].map ρ = #[ρ x,ρ y] by simp];rfl
section
variable {P:Program} {main:Bool} {D:World->World->Array Event->Prop} {X:Goroutine->World->Prop} {w:World} {b:Frame} {a:Act} {k:List Item} {cs:List Frame} {ops:Array Oper} {i:Nat} {rest:List Nat} {o:Oper} {m:Nat} {l:List (Int×Value)}
end
end
section
open Go Go.Conc
def fF (l:List (Int×Value)) (k:Int):Option Value:=(idx l k).map Prod.snd
theorem vK {l:List (Int×Value)} (hn:(l.map Prod.fst).Nodup) {k:Int} {v:Value}:fF l k=some v↔(k,v)∈l:=by
 unfold fF;constructor
 ·intro h
  obtain ⟨⟨i,u⟩,h1,rfl⟩:=Option.map_eq_some_iff.1 h;obtain ⟨d,_,h2⟩:=oK (show idx.go k l 0=some (i,u) from h1);exact List.mem_of_getElem? h2
 ·intro h
  cases hi:idx l k with
  | none=>exact absurd rfl (xZ (show idx.go k l 0=none from hi) _ h)
  | some p =>
   obtain ⟨i,u⟩:=p;obtain ⟨d,_,h2⟩:=oK (show idx.go k l 0=some (i,u) from hi);have h3:(k,u)∈l:=List.mem_of_getElem? h2;have:u=v:=by
    have key:∀ (q:List (Int×Value)),(q.map Prod.fst).Nodup->(k,u)∈q->(k,v)∈q->u=v:=by
     intro q;induction q with
     | nil=>intro _ h;cases h
     | cons x r ih =>
      intro hn h1 h2;simp only [List.map_cons,List.nodup_cons] at hn;rcases List.mem_cons.1 h1 with e1 | h1 <;> rcases List.mem_cons.1 h2 with e2 | h2
      ·rw [<- e1] at e2;exact (Prod.mk.inj e2).2.symm
      ·exact absurd (List.mem_map.2 ⟨_,h2,by rw [<- e1]⟩) hn.1
      ·exact absurd (List.mem_map.2 ⟨_,h1,by rw [<- e2]⟩) hn.1
      ·exact ih hn.2 h1 h2
    exact key l hn h3 h
   rw [this];rfl
theorem Nu {l:List (Int×Value)} {k:Int}:fF l k=none↔∀ p∈l,p.1≠k:=by
 unfold fF;rw [Option.map_eq_none_iff];constructor
 ·exact λ h=>xZ (show idx.go k l 0=none from h)
 ·intro h
  cases hi:idx l k with
  | none=>rfl
  | some p =>
   obtain ⟨d,_,h2⟩:=oK (show idx.go k l 0=some (p.1,p.2) from hi);exact absurd rfl (h _ (List.mem_of_getElem? h2))
theorem iD (p:Int×Value) (r:List (Int×Value)) (k:Int):fF (p::r) k=if p.1=k then some p.2 else fF r k:=by
 have go:∀ (q:List (Int×Value)) (i j:Nat),(idx.go k q i).map Prod.snd=(idx.go k q j).map Prod.snd:=by
  intro q;induction q with
  | nil=>intros;rfl
  | cons x r ih =>
   intro i j;unfold idx.go;split
   ·rfl
   ·exact ih (i+1) (j+1)
 unfold fF idx;rw [idx.go];split
 ·rfl
 ·exact go r 1 0
theorem IU (a b:List (Int×Value)) (k:Int):fF (a++b) k=(fF a k).or (fF b k):=by
 induction a with
 | nil=>rfl
 | cons x r ih=>rw [List.cons_append,iD,iD,ih];split <;> simp
theorem Po {l:List (Int×Value)} (hn:(l.map Prod.fst).Nodup) (k j:Int) (v:Value):fF (Ns l k v) j=if j=k then some v else fF l j:=by
 unfold Ns;cases hi:idx l k with
 | none =>
  dsimp only;have h0:fF l k=none:=by unfold fF;rw [hi];rfl
  rw [IU,iD];by_cases hj:j=k
  ·subst hj;simp [h0]
  ·have:¬ k=j:=λ e=>hj e.symm
   rw [if_neg hj,if_neg this];show (fF l j).or none=_;simp
 | some p =>
  obtain ⟨i,u⟩:=p;dsimp only;obtain ⟨d,hd,h2⟩:=oK (show idx.go k l 0=some (i,u) from hi);obtain rfl:d=i:=by omega
  clear hd hi;have key:∀ (q:List (Int×Value)) (d:Nat),(q.map Prod.fst).Nodup->q[d]? = some (k,u)->fF (q.modify d λ _=>(k,v)) j=if j=k then some v else fF q j:=by
   intro q;induction q with
   | nil=>intro d _ h;simp at h
   | cons x r ih =>
    intro d hn h;simp only [List.map_cons,List.nodup_cons] at hn;cases d with
    | zero =>
     simp only [List.getElem?_cons_zero,Option.some.injEq] at h;subst h;rw [List.modify_zero_cons,iD,iD];by_cases hj:j=k
     ·simp [hj]
     ·have:¬ k=j:=λ e=>hj e.symm
      simp [hj,this]
    | succ d =>
     simp only [List.getElem?_cons_succ] at h;rw [List.modify_succ_cons,iD,iD,ih d hn.2 h];by_cases hx:x.1=j
     ·have:¬ j=k:=λ e=>hn.1 (List.mem_map.2 ⟨_,List.mem_of_getElem? h,by rw [hx,e]⟩)
      simp [hx,this]
     ·simp [hx]
  exact key l d hn h2
theorem Pp {l:List (Int×Value)} (hn:(l.map Prod.fst).Nodup) (k j:Int):fF (Nt l k) j=if j=k then none else fF l j:=by
 unfold Nt;cases hi:idx l k with
 | none =>
  dsimp only;have h0:fF l k=none:=by unfold fF;rw [hi];rfl
  by_cases hj:j=k
  ·subst hj;simp [h0]
  ·simp [hj]
 | some p =>
  obtain ⟨i,u⟩:=p;dsimp only;obtain ⟨d,hd,h2⟩:=oK (show idx.go k l 0=some (i,u) from hi);obtain rfl:d=i:=by omega
  clear hd hi;have key:∀ (q:List (Int×Value)) (d:Nat),(q.map Prod.fst).Nodup->q[d]? = some (k,u)->fF (q.eraseIdx d) j=if j=k then none else fF q j:=by
   intro q;induction q with
   | nil=>intro d _ h;simp at h
   | cons x r ih =>
    intro d hn h;simp only [List.map_cons,List.nodup_cons] at hn;cases d with
    | zero =>
     simp only [List.getElem?_cons_zero,Option.some.injEq] at h;subst h;rw [List.eraseIdx_cons_zero,iD];by_cases hj:j=k
     ·subst hj
      rw [if_pos rfl];exact Nu.2 λ p hp e=>hn.1 (List.mem_map.2 ⟨p,hp,e⟩)
     ·have:¬ k=j:=λ e=>hj e.symm
      simp [hj,this]
    | succ d =>
     simp only [List.getElem?_cons_succ] at h;rw [List.eraseIdx_cons_succ,iD,iD,ih d hn.2 h];by_cases hx:x.1=j
     ·have:¬ j=k:=λ e=>hn.1 (List.mem_map.2 ⟨_,List.mem_of_getElem? h,by rw [hx,e]⟩)
      simp [hx,this]
     ·simp [hx]
  exact key l d hn h2
def fA (w:World) (m:Nat) (f:Int->Option Value):Prop:=∃ l,kT w m l/\∀ k,fF l k=f k
def oM (f:Int->Option Value) (k:Int) (v:Option Value):Int->Option Value:=λ j=>if j=k then v else f j
section
variable {P:Program} {w:World} {m:Nat} {f:Int->Option Value}
theorem fA.same {w':World} (h:fA w m f) (hs:cu w w'):fA w' m f:=by
 obtain ⟨l,h1,h2⟩:=h;exact ⟨l,h1.same hs,h2⟩
theorem fA.keep {w':World} (h:fA w m f) (hs:w'.heap[m]? = w.heap[m]?):fA w' m f:=by
 obtain ⟨l,h1,h2⟩:=h;exact ⟨l,h1.keep hs,h2⟩
theorem fA.lt (h:fA w m f):m<w.heap.size:=by
 obtain ⟨l,⟨⟨es,c,h1,_⟩,_⟩,_⟩:=h;exact ag h1
theorem BR {t key e:TypeId} {z:Value} {k:Int} (ht:P.underlying t=some (.map key e)) (hk:P.underlying key=some (.int .u32)) (hz:∀ w,(zeroValue e).run P w=.ok z w) (h:fA w m f) (ok:Bool):(Instr.lookup t (.map (some m)) (.int .u32 k) ok).run P w=.ok (if ok then .tuple #[(f k).getD z,.bool (f k).isSome] else (f k).getD z) w:=by
 obtain ⟨l,h1,h2⟩:=h;have e:=KE (k:=k) ht hk hz h1;have hl:=h2 k;unfold fF at hl;cases ok with
 | true =>
  rw [e];cases hi:idx l k with
  | none=>rw [hi] at hl;simp [<- hl]
  | some p=>rw [hi] at hl;simp [<- hl]
 | false =>
  obtain ⟨es,c,g1,g2,_,_⟩:=h1.ex;have hf:=xq k es.toList l 0 g2;have hc:=vJ (P:=P) (k:=k) (b:=es.isEmpty) hk 9999 w;simp only [Nat.reduceAdd] at hc;have hi:idx l k=idx.go k l 0:=rfl;rw [hi] at hl;cases hg:idx.go k l 0 with
  | none =>
   rw [hg] at hf hl;simp [Instr.lookup,run_underlying ht,run_underlying hk,getObj,g1,Sem.run,hz,Instr.findKey,hf,hc,<- hl]
  | some p =>
   rw [hg] at hf hl;obtain ⟨i,v⟩:=p;simp [Instr.lookup,run_underlying ht,run_underlying hk,getObj,g1,Sem.run,Instr.findKey,hf,hc,<- hl]
theorem KJ {t key e:TypeId} {k:Int} {v:Value} (ht:P.underlying t=some (.map key e)) (hk:P.underlying key=some (.int .u32)) (h:fA w m f):∃ w',(Instr.mapUpdate t (.map (some m)) (.int .u32 k) v).run P w=.ok () w'/\fA w' m (oM f k (some v))/\GB (some m) w w':=by
 obtain ⟨l,h1,h2⟩:=h;obtain ⟨w',g1,g2,g3⟩:=KF (P:=P) (k:=k) (v:=v) ht hk h1;exact ⟨w',g1,⟨_,g2,λ j=>by rw [Po h1.keys,oM,h2]⟩,g3⟩
theorem KL {t ty key e:TypeId} {k:Int} (ht:P.underlying t=some (.map key e)) (hk:P.underlying key=some (.int .u32)) (h:fA w m f):∃ w',(Builtin.delete_ #[t,key] ty #[.map (some m),.int .u32 k]).run P w=.ok (.tuple #[]) w'/\fA w' m (oM f k none)/\GB (some m) w w':=by
 obtain ⟨l,h1,h2⟩:=h;obtain ⟨w',g1,g2,g3⟩:=KG (P:=P) (ty:=ty) (k:=k) ht hk h1;exact ⟨w',g1,⟨_,g2,λ j=>by rw [Pp h1.keys,oM,h2]⟩,g3⟩
theorem Nv {t ty key e:TypeId} (ht:P.underlying t=some (.map key e)) (h:fA w m f):∃ w',(Builtin.clear_ #[t] ty #[.map (some m)]).run P w=.ok (.tuple #[]) w'/\fA w' m (λ _=>none)/\GB (some m) w w':=by
 obtain ⟨l,h1,h2⟩:=h;obtain ⟨w',g1,g2,g3⟩:=Nr (P:=P) (ty:=ty) ht h1;exact ⟨w',g1,⟨_,g2,λ _=>rfl⟩,g3⟩
end
def mi (w:World) (it m:Nat) (l todo:List (Int×Value)) (cur:Option (Int×Value)):Prop:=∃ es clock since seen c0,w.heap[m]? = some (.map es clock)/\es.toList.map (λ e=>(e.key,e.val))=l.map (λ p=>(Value.int .u32 p.1,p.2))/\(es.toList.map MapEntry.born).Nodup/\(∀ e∈es.toList,e.born<since)/\since<=c0/\since<=clock/\w.heap[it]? = some (.mapIter (some m) since seen c0)/\(leftOf es seen).toList.map (λ e=>(e.key,e.val))=todo.map (λ p=>(Value.int .u32 p.1,p.2))/\(l.map Prod.fst).Nodup/\∀ p,cur=some p->c0=clock/\∃ e∈es.toList,seen.back? = some e.born/\e.key=.int .u32 p.1/\e.val=p.2
section
variable {P:Program} {w w':World} {it m:Nat} {l todo:List (Int×Value)} {cur:Option (Int×Value)}
theorem mi.keep (h:mi w it m l todo cur) (h1:w'.heap[it]? = w.heap[it]?) (h2:w'.heap[m]? = w.heap[m]?):mi w' it m l todo cur:=by
 unfold mi at h |-;rw [h1,h2];exact h
theorem mi.ne (h:mi w it m l todo cur):it≠m:=by
 obtain ⟨es,clock,since,seen,c0,h1,_,_,_,_,_,h7,_⟩:=h;rintro rfl;rw [h1] at h7;cases h7
theorem mi.map (h:mi w it m l todo cur):kT w m l:=by
 obtain ⟨es,clock,since,seen,c0,h1,h2,h3,h4,h5,h6,h7,h8,h9,_⟩:=h;exact ⟨⟨es,clock,h1,h2,h3,λ e he=>Nat.lt_of_lt_of_le (h4 e he) h6⟩,h9⟩
theorem Nw {t key e:TypeId} (ht:P.underlying t=some (.map key e)) (h:kT w m l):∃ o,(Instr.range t (.map (some m))).run P w=.ok (.pointer (some ⟨w.heap.size,0,none⟩)) (w.alloc o)/\mi (w.alloc o) w.heap.size m l l none:=by
 obtain ⟨es,c,h1,h2,h3,h4⟩:=h.ex;refine ⟨.mapIter (some m) c #[] c,?_,es,c,c,#[],c,(alloc_old (ag h1) _).trans h1,h2,h3,h4,Nat.le_refl _,Nat.le_refl _,iK _ _,?_,h.keys,nofun⟩
 ·simp [Instr.range,run_underlying ht,getObj,h1,Sem.run]
 ·have:leftOf es #[]=es:=by unfold leftOf;simp
  rw [this];exact h2
theorem Pq {ty:TypeId} (h:mi w it m l todo cur) :
 (todo=[]/\(Instr.next (.pointer (some ⟨it,0,none⟩)) false ty).run P w=.ok (.tuple #[.bool false]) w) \/
 ∃ i p w',todo[i]? = some p/\(Instr.next (.pointer (some ⟨it,0,none⟩)) false ty).run P w=.ok (.tuple #[.bool true,.int .u32 p.1,p.2]) w'/\mi w' it m l (todo.eraseIdx i) (some p)/\GB (some it) w w':=by
 have hne:=h.ne;obtain ⟨es,clock,since,seen,c0,h1,h2,h3,h4,h5,h6,h7,h8,h9,_⟩:=h;rcases run_next_at (P:=P) w ty it m since c0 seen es clock h7 h1 h4 h5 with ⟨ha,hb⟩ | ⟨e,he,w1,hw,hr⟩
 ·refine .inl ⟨?_,hb⟩
  have:(leftOf es seen).toList=[]:=by
   have:(leftOf es seen).toList.length=0:=by simpa using ha
   exact List.eq_nil_of_length_eq_zero this
  rw [this] at h8;simpa using h8.symm
 ·obtain ⟨i,hi⟩:=List.mem_iff_getElem?.1 he
  have hk:=congrArg (λ q=>q[i]?) h8;simp only [List.getElem?_map,hi,Option.map_some] at hk;obtain ⟨p,hp1,hp2⟩:=Option.map_eq_some_iff.1 hk.symm;simp only [Prod.mk.injEq] at hp2;have hes:e∈es.toList:=by unfold leftOf at he;simp only [Array.toList_filter,List.mem_filter] at he;exact he.1
  rw [<- hp2.1,<- hp2.2] at hr;have hw1:w1.heap=w.heap/\w1.os=w.os/\w1.output=w.output:=by rcases hw with rfl | rfl <;> exact ⟨rfl,rfl,rfl⟩
  have hlt:=ag h7;refine .inr ⟨i,p,_,hp1,hr,⟨es,clock,since,seen.push e.born,clock,?_,h2,h3,h4,h6,h6,?_,?_,h9,?_⟩,⟨hw1.2.1,hw1.2.2,?_,λ x hx hne=>?_⟩⟩
  ·show (w1.heap.setIfInBounds it _)[m]? = _
   rw [Array.getElem?_setIfInBounds_ne hne,hw1.1];exact h1
  ·show (w1.heap.setIfInBounds it _)[it]? = _
   rw [Array.getElem?_setIfInBounds_self_of_lt (by rw [hw1.1];exact hlt)]
  ·rw [Pn,zX ?_ hi,jy,h8]
   ·exact (jy _ _ _).symm
   ·unfold leftOf
    rw [Array.toList_filter];exact h3.sublist ((List.filter_sublist).map _)
  ·intro q hq
   cases hq
   exact ⟨rfl,e,hes,by simp,hp2.1.symm,hp2.2.symm⟩
  ·show w.heap.size<=(w1.heap.setIfInBounds it _).size
   simp [hw1.1]
  ·show (w1.heap.setIfInBounds it _)[x]? = _
   rw [Array.getElem?_setIfInBounds_ne (λ e=>hne (by rw [e])),hw1.1]
theorem find_born:∀ {L:List MapEntry} {e:MapEntry},(L.map MapEntry.born).Nodup->e∈L->L.find? (λ x=>x.born == e.born)=some e
 | [],_,_,h=>by cases h
 | x::r,e,hn,h=>by
  simp only [List.map_cons,List.nodup_cons] at hn;rcases List.mem_cons.1 h with rfl | h
  ·simp
  ·have:x.born≠e.born:=λ q=>hn.1 (q ▸ List.mem_map_of_mem h)
   rw [List.find?_cons_of_neg (by simpa using this)];exact find_born hn.2 h
theorem Ny {p:Int×Value} (h:mi w it m l todo (some p)):(Instr.entry (.pointer (some ⟨it,0,none⟩))).run P w=.ok (.tuple #[.int .u32 p.1,p.2]) w:=by
 obtain ⟨es,clock,since,seen,c0,h1,h2,h3,h4,h5,h6,h7,h8,h9,h10⟩:=h;obtain ⟨rfl,e,he,hb,hk,hv⟩:=h10 p rfl;have hf:es.find? (λ x=>x.born == e.born)=some e:=by rw [<- Array.find?_toList];exact find_born h3 he
 simp [Instr.entry,getObj,h7,h1,Sem.run,hb,hf,hk,hv]
end
end
section
open Go
def aW {α:Type} (P:Program):Sem α->Option α
 | .pure a=>some a
 | .program k=>aW P (k P)
 | _=>none
theorem Gb {α:Type} {P:Program} {s:Sem α} {a:α} (h:aW P s=some a) (w:World) (es:Array Event):s.runT P w es=(.ok a w,es):=by
 induction s with
 | pure b=>simp only [aW,Option.some.injEq] at h;subst h;rfl
 | program k ih=>exact ih P h
 | _=>cases h
theorem iE {α:Type} {P:Program} {s:Sem α} {a:α} (h:aW P s=some a) (w:World):s.run P w=.ok a w:=by
 rw [<- Sem.runT_fst P s w #[],Gb h]
theorem Gc {α:Type} {P:Program} {s:Sem α} {a:α} (h:aW P s=some a) (w:World):s.events P w #[] = #[]:=by
 unfold Sem.events;rw [Gb h]
theorem aG {α β:Type} (P:Program) (s:Sem α) (f:α->Sem β):aW P (s >>= f)=(aW P s).bind λ a=>aW P (f a):=by
 change aW P (s.bind f)=_;induction s with
 | pure b=>rfl
 | program k ih=>exact ih P
 | _=>rfl
theorem aH {α:Type} (P:Program) (a:α):aW P (pure a:Sem α)=some a:=rfl
theorem bA {P:Program} {t:TypeId} {d:TypeDesc} (h:P.underlying t=some d):aW P (underlying t)=some d:=by
 show aW P (match P.underlying t with | some d => pure d | none => stuck "no such type") = _;rw [h];rfl
theorem BS {P:Program} {t:TypeId} {i:TypeInfo} (h:P.info? t=some i):aW P (typeInfo t)=some i:=by
 show aW P (match P.info? t with | some i => pure i | none => stuck "no such type") = _;rw [h];rfl
theorem gF {P:Program} {t:TypeId} {i:TypeInfo} (h:P.info? t=some i):aW P (sizeOf t)=some i.size:=by
 unfold sizeOf;rw [aG,BS h];rfl
theorem rA {P:Program} {t:TypeId} {i:TypeInfo} {z:Value} (h:P.info? t=some i) (hz:i.zero=some z):aW P (zeroValue t)=some z:=by
 unfold zeroValue;rw [aG,BS h];show aW P (match i.zero with | some v=>pure v | none=>_)=_;rw [hz];rfl
inductive Ty where
 | i (k:IntKind) | o | t | p | f | l (e:Nat) | m (k v:Nat) | s (fs:List Nat)
abbrev iM:=List (Nat×Ty)
noncomputable def iM.get (T:iM) (t:Nat):Option Ty:=List.rec none (λ p _ ih=>bif Nat.beq t p.1 then some p.2 else ih) T
theorem iM.Sm (u:Nat) (x:Ty) (r:iM) (t:Nat):iM.get ((u,x)::r) t=bif Nat.beq t u then some x else iM.get r t:=rfl
noncomputable def UG (T:iM):Nat->Nat->List Value
 | 0,_=>[]
 | n+1,t=>match T.get t with
  | none=>[]
  | some (.i k)=>[.int k 0]
  | some .o=>[.bool false]
  | some .t=>[.string ⟨#[]⟩]
  | some .p=>[.pointer none]
  | some .f=>[.nilFunc]
  | some (.l _)=>[.slice none 0 0]
  | some (.m _ _)=>[.map none]
  | some (.s fs)=>fs.flatMap (UG T n)
noncomputable def zc (T:iM) (t:Nat):List Value:=UG T 6 t
noncomputable def bD (T:iM) (t:Nat):Nat:=(zc T t).length
noncomputable def p9 (T:iM):List Nat->Nat->List (Nat×Nat)
 | [],_=>[]
 | t::ts,o=>(o,t)::p9 T ts (o+bD T t)
inductive Dk where
 | i (k:IntKind) | o | t | p | f | l (e:Nat) | m (k v:Nat) | s (fs:List (Nat×Nat×Bool)) | no
def dk:TypeDesc->Dk
 | .int k=>.i k
 | .bool=>.o
 | .string=>.t
 | .pointer _=>.p
 | .func _ _ _=>.f
 | .slice e=>.l e
 | .map k v=>.m k v
 | .struct fs => .s (fs.toList.map fun f => (f.offset, f.type, f.name == "_"))
 | _=>.no
noncomputable def UH (T:iM):Ty->Dk
 | .i k=>.i k
 | .o=>.o
 | .t=>.t
 | .p=>.p
 | .f=>.f
 | .l e=>.l e
 | .m k v=>.m k v
 | .s fs=>.s ((p9 T fs 0).map λ p=>(p.1,p.2,false))
def jT:Ty->Bool
 | .s _=>true
 | _=>false
noncomputable def zv (T:iM) (t:Nat) (x:Ty):Value:=match jT x,zc T t with
 | false,v::_=>v
 | _,l=>.agg l.toArray
structure oN (P:Program) (T:iM):Prop where
 eq:(T.map λ p=>((P.info? p.1).map λ i=>(i.zero,i.size,decide (i.bytes<=2400)),(P.underlying p.1).map dk))=T.map λ p=>(some (some (zv T p.1 p.2),bD T p.1,true),some (UH T p.2))
section
variable {P:Program} {T:iM}
theorem iM.mem {T:iM} {t:Nat} {x:Ty} (h:T.get t=some x):(t,x)∈T:=by
 induction T with
 | nil=>cases h
 | cons p r ih =>
  obtain ⟨u,y⟩:=p;rw [iM.Sm] at h;cases hb:Nat.beq t u with
  | true =>
   rw [hb] at h;have:=Nat.eq_of_beq_eq_true hb;simp only [cond_true,Option.some.injEq] at h;subst this h;exact List.mem_cons_self
  | false=>rw [hb] at h;exact List.mem_cons_of_mem _ (ih h)
structure Sn (P:Program) (T:iM) (t:Nat) (x:Ty) (i:TypeInfo) (d:TypeDesc):Prop where
 info:P.info? t=some i
 zero:i.zero=some (zv T t x)
 size:i.size=bD T t
 bytes:i.bytes<=2400
 under:P.underlying t=some d
 kind:dk d=UH T x
theorem oN.is (h:oN P T) {t:Nat} {x:Ty} (hx:T.get t=some x):∃ i d,Sn P T t x i d:=by
 have h1:=List.map_inj_left.1 h.eq (t,x) (iM.mem hx);dsimp only at h1;cases hi:P.info? t with
 | none=>rw [hi] at h1;simp at h1
 | some i =>
  cases hu:P.underlying t with
  | none=>rw [hu] at h1;simp at h1
  | some d =>
   rw [hi,hu] at h1;simp only [Option.map_some,Prod.mk.injEq,Option.some.injEq,decide_eq_true_eq] at h1;obtain ⟨⟨h2,h3,h4⟩,h5⟩:=h1;exact ⟨i,d,hi,h2,h3,h4,hu,h5⟩
theorem zY {d:TypeDesc} {k:IntKind} (h:dk d=.i k):d=.int k:=by cases d <;> simp_all [dk]
theorem IV {d:TypeDesc} (h:dk d=.o):d=.bool:=by cases d <;> simp_all [dk]
theorem x9 {d:TypeDesc} (h:dk d=.t):d=.string:=by cases d <;> simp_all [dk]
theorem Nz {d:TypeDesc} (h:dk d=.p):∃ e,d=.pointer e:=by cases d <;> simp_all [dk]
theorem XQ {d:TypeDesc} (h:dk d=.f):∃ a b c,d=.func a b c:=by cases d <;> simp_all [dk]
theorem mK {d:TypeDesc} {e:Nat} (h:dk d=.l e):d=.slice e:=by cases d <;> simp_all [dk]
theorem Sq {d:TypeDesc} {k v:Nat} (h:dk d=.m k v):d=.map k v:=by cases d <;> simp_all [dk]
theorem IW {d : TypeDesc} {l : List (Nat × Nat × Bool)} (h : dk d = .s l) : ∃ fs, d = .struct fs ∧ fs.toList.map (fun f => (f.offset, f.type, f.name == "_")) = l := by cases d <;> simp_all [dk]
theorem NA (h:oN P T) {t:Nat} {x:Ty} (hx:T.get t=some x):aW P (isAgg t)=some (jT x):=by
 obtain ⟨i,d,hd⟩:=h.is hx;unfold isAgg;rw [aG,bA hd.under];have hk:=hd.kind;cases x <;> simp only [UH] at hk
 ·rw [zY hk];rfl
 ·rw [IV hk];rfl
 ·rw [x9 hk];rfl
 ·obtain ⟨_,rfl⟩:=Nz hk;rfl
 ·obtain ⟨_,_,_,rfl⟩:=XQ hk;rfl
 ·rw [mK hk];rfl
 ·rw [Sq hk];rfl
 ·obtain ⟨_,rfl,_⟩:=IW hk;rfl
end
end
end Go.Proofs.YtignemioillaiabGreat
