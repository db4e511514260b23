/- Lemmas. -/
import Derived.Test.YtignemioillaiabGreatG13
import Derived.Maps.RangeRun
import Derived.IntWalk
namespace Go.Proofs.YtignemioillaiabGreat
set_option maxHeartbeats 8000000
set_option maxRecDepth 100000
open List
section
open Go Go.Conc Go.RowKit
def QC(l:List (Int×Value))(k:Int):List (Int×Value):=match idx l k with
 |some (i,_)=>l.eraseIdx i
 |none=>l
section
variable{P:Program}{w:World}{m:Nat}{l:List (Int×Value)}
theorem jZ{α β:Type}(f:α->β):∀(l:List α) (i:Nat),(l.eraseIdx i).map f=(l.map f).eraseIdx i
 | [],_=>rfl
 |_::_,0=>rfl
 |x::r,i+1=>by simp[jZ f r i]
theorem N7{t ty key e:TypeId}{k:Int}(ht:P.underlying t=some (.map key e))(hk:P.underlying key=some (.int .u32))(h:mH w m l):∃w',(Builtin.delete_ #[t,key] ty #[.map (some m),.int .u32 k]).run P w=.ok (.tuple #[]) w'/\mH w' m (QC l k)/\GB (some m) w w':=by
 obtain⟨es,c,h1,h2,h3,h4⟩:=h.ex;have hf:=za k es.toList l 0 h2;have hc:=xG (P:=P) (k:=k) (b:=es.isEmpty) hk 9999 w;simp only[Nat.reduceAdd]at hc;have hlt:=ae h1;unfold QC;rw[show idx l k=idx.go k l 0 from rfl];cases hg:idx.go k l 0 with
 |none =>
  rw[hg]at hf;refine⟨{w with heap:=w.heap.setIfInBounds m (.map es c)},?_,⟨⟨es,c,Array.getElem?_setIfInBounds_self_of_lt hlt,h2,h3,h4⟩,h.keys⟩,⟨rfl,rfl,by simp,λx hx hne=>Array.getElem?_setIfInBounds_ne λe=>hne (by rw[e])⟩⟩;simp[Builtin.delete_,run_underlying ht,run_underlying hk,getObj,setObj,h1,Sem.run,Instr.findKey,hf,hc]
 |some q =>
  obtain⟨i,v0⟩:=q;rw[hg]at hf;refine⟨{w with heap:=w.heap.setIfInBounds m (.map (es.eraseIdxIfInBounds i) c)},?_,⟨⟨_,_,Array.getElem?_setIfInBounds_self_of_lt hlt,?_,?_,?_⟩,?_⟩,⟨rfl,rfl,by simp,λx hx hne=>Array.getElem?_setIfInBounds_ne λe=>hne (by rw[e])⟩⟩
  .simp[Builtin.delete_,run_underlying ht,run_underlying hk,getObj,setObj,h1,Sem.run,Instr.findKey,hf,hc]
  .rw[Jdg,jZ,h2]
   exact(jZ _ _ _).symm
  .rw[Jdg,jZ]
   exact h3.sublist (Jdh _ _)
  .intro e' he'
   rw[Jdg]at he';exact h4 e' (Jdj he')
  .show((l.eraseIdx i).map Prod.fst).Nodup
   rw[jZ];exact h.keys.sublist (Jdh _ _)
theorem Ca:∀{L:List MapEntry} {i:Nat} {e:MapEntry},(L.map MapEntry.born).Nodup->L[i]?=some e->L.filter (λx=>!(x.born==e.born))=L.eraseIdx i
 | [],_,_,_,h=>by simp at h
 |x::r,0,e,hn,h=>by
  simp only[Jd0,Jbc]at h;subst h;simp only[Jcj,Jdk]at hn;rw[Jdm (by simp),eraseIdx_cons_zero];exact filter_eq_self.2 λy hy=>by
   have:y.born≠x.born:=λe=>hn.1 (e▸mem_map_of_mem hy)
   simpa using this
 |x::r,i+1,e,hn,h=>by
  simp only[Jcz]at h;simp only[Jcj,Jdk]at hn;have hx:x.born≠e.born:=λq=>hn.1 (q▸mem_map_of_mem (Jcv h))
  rw[Jdn (by simpa using hx),eraseIdx_cons_succ,Ca hn.2 h]
theorem SY(es:Array MapEntry)(seen:Array Nat)(b:Nat):(leftOf es (seen.push b)).toList=(leftOf es seen).toList.filter (λx=>!(x.born==b)):=by
 unfold leftOf;simp only[Array.toList_filter,filter_filter];congr 1
 funext x
 simp[Bool.not_or,Bool.and_comm];rw[show(x.born==b)=decide (x.born=b)from rfl]
end
theorem N8{ρ:Operand->Value}{o:Oper}{t:TypeId}{x y z:Operand}(hop:o.op=.mapUpdate t x y z):execOp ρ o=(do Instr.mapUpdate t (ρ x) (ρ y) (ρ z);pure Next.skip):=by
 unfold execOp;rw[hop]
theorem N9{ρ:Operand->Value}{o:Oper}{t t':TypeId}{x y:Operand}(hop:o.op=.call {callee:=.builtin .delete,args:=#[x,y],argTypes:=#[t,t']}):execOp ρ o=(do pure (Next.value (<-Builtin.delete_ #[t,t'] o.type #[ρ x,ρ y]))):=by
 have e:execOp ρ o=builtin .delete #[t,t'] o.type (#[x,y].map λ | .const _=>true|_=>false) (#[x,y].map ρ):=by
  unfold execOp;rw[hop];rfl
 rw[e,show #[x,y].map ρ=#[ρ x,ρ y]by simp];rfl
section
variable{P:Program}{main:Bool}{D:World->World->Array Event->Prop}{X:Goroutine->World->Prop}{w:World}{b:Frame}{a:Act}{k:List Item}{cs:List Frame}{ops:Array Oper}{i:Nat}{rest:List Nat}{o:Oper}{m:Nat}{l:List (Int×Value)}
end
end
section
open Go Go.Conc
def gL(l:List (Int×Value))(k:Int):Option Value:=(idx l k).map Prod.snd
theorem xH{l:List (Int×Value)}(hn:(l.map Prod.fst).Nodup){k:Int}{v:Value}:gL l k=some v↔(k,v)∈l:=by
 unfold gL;constructor
 .intro h
  obtain⟨⟨i,u⟩,h1,rfl⟩:=Jbk.1 h;obtain⟨d,_,h2⟩:=qL (show idx.go k l 0=some (i,u)from h1);exact Jcv h2
 .intro h
  cases hi:idx l k with
  |none=>exact absurd rfl (zU (show idx.go k l 0=none from hi) _ h)
  |some p =>
   obtain⟨i,u⟩:=p;obtain⟨d,_,h2⟩:=qL (show idx.go k l 0=some (i,u)from hi);have h3:(k,u)∈l:=Jcv h2;have:u=v:=by
    have key:∀(q:List (Int×Value)),(q.map Prod.fst).Nodup->(k,u)∈q->(k,v)∈q->u=v:=by
     intro q;induction q with
     |nil=>intro _ h;cases h
     |cons x r ih =>
      intro hn h1 h2;simp only[Jcj,Jdk]at hn;rcases Jb3.1 h1 with e1|h1<;>rcases Jb3.1 h2 with e2|h2
      .rw[<-e1]at e2;exact(Prod.mk.inj e2).2.symm
      .exact absurd (Jdb.2 ⟨_,h2,by rw[<-e1]⟩) hn.1
      .exact absurd (Jdb.2 ⟨_,h1,by rw[<-e2]⟩) hn.1
      .exact ih hn.2 h1 h2
    exact key l hn h3 h
   rw[this];rfl
theorem QD{l:List (Int×Value)}{k:Int}:gL l k=none↔∀p∈l,p.1≠k:=by
 unfold gL;rw[Option.map_eq_none_iff];constructor
 .exact λh=>zU (show idx.go k l 0=none from h)
 .intro h
  cases hi:idx l k with
  |none=>rfl
  |some p =>
   obtain⟨d,_,h2⟩:=qL (show idx.go k l 0=some (p.1,p.2)from hi);exact absurd rfl (h _ (Jcv h2))
theorem iZ(p:Int×Value)(r:List (Int×Value))(k:Int):gL (p::r) k=if p.1=k then some p.2 else gL r k:=by
 have go:∀(q:List (Int×Value)) (i j:Nat),(idx.go k q i).map Prod.snd=(idx.go k q j).map Prod.snd:=by
  intro q;induction q with
  |nil=>intros;rfl
  |cons x r ih =>
   intro i j;unfold idx.go;split
   .rfl
   .exact ih (i+1) (j+1)
 unfold gL idx;rw[idx.go];split
 .rfl
 .exact go r 1 0
theorem Lp(a b:List (Int×Value))(k:Int):gL (a++b) k=(gL a k).or (gL b k):=by
 induction a with
 |nil=>rfl
 |cons x r ih=>rw[cons_append,iZ,iZ,ih];split<;>simp
theorem S9{l:List (Int×Value)}(hn:(l.map Prod.fst).Nodup)(k j:Int)(v:Value):gL (QB l k v) j=if j=k then some v else gL l j:=by
 unfold QB;cases hi:idx l k with
 |none =>
  dsimp only;have h0:gL l k=none:=by unfold gL;rw[hi];rfl
  rw[Lp,iZ];by_cases hj:j=k
  .subst hj;simp[h0]
  .have:¬k=j:=λe=>hj e.symm
   rw[Jb5 hj,Jb5 this];show(gL l j).or none=_;simp
 |some p =>
  obtain⟨i,u⟩:=p;dsimp only;obtain⟨d,hd,h2⟩:=qL (show idx.go k l 0=some (i,u)from hi);obtain rfl:d=i:=by omega
  clear hd hi;have key:∀(q:List (Int×Value)) (d:Nat),(q.map Prod.fst).Nodup->q[d]?=some (k,u)->gL (q.modify d λ_=>(k,v)) j=if j=k then some v else gL q j:=by
   intro q;induction q with
   |nil=>intro d _ h;simp at h
   |cons x r ih =>
    intro d hn h;simp only[Jcj,Jdk]at hn;cases d with
    |zero =>
     simp only[Jd0,Jbc]at h;subst h;rw[modify_zero_cons,iZ,iZ];by_cases hj:j=k
     .simp[hj]
     .have:¬k=j:=λe=>hj e.symm
      simp[hj,this]
    |succ d =>
     simp only[Jcz]at h;rw[modify_succ_cons,iZ,iZ,ih d hn.2 h];by_cases hx:x.1=j
     .have:¬j=k:=λe=>hn.1 (Jdb.2 ⟨_,Jcv h,by rw[hx,e]⟩)
      simp[hx,this]
     .simp[hx]
  exact key l d hn h2
theorem Td{l:List (Int×Value)}(hn:(l.map Prod.fst).Nodup)(k j:Int):gL (QC l k) j=if j=k then none else gL l j:=by
 unfold QC;cases hi:idx l k with
 |none =>
  dsimp only;have h0:gL l k=none:=by unfold gL;rw[hi];rfl
  by_cases hj:j=k
  .subst hj;simp[h0]
  .simp[hj]
 |some p =>
  obtain⟨i,u⟩:=p;dsimp only;obtain⟨d,hd,h2⟩:=qL (show idx.go k l 0=some (i,u)from hi);obtain rfl:d=i:=by omega
  clear hd hi;have key:∀(q:List (Int×Value)) (d:Nat),(q.map Prod.fst).Nodup->q[d]?=some (k,u)->gL (q.eraseIdx d) j=if j=k then none else gL q j:=by
   intro q;induction q with
   |nil=>intro d _ h;simp at h
   |cons x r ih =>
    intro d hn h;simp only[Jcj,Jdk]at hn;cases d with
    |zero =>
     simp only[Jd0,Jbc]at h;subst h;rw[eraseIdx_cons_zero,iZ];by_cases hj:j=k
     .subst hj
      rw[Jb6 rfl];exact QD.2 λp hp e=>hn.1 (Jdb.2 ⟨p,hp,e⟩)
     .have:¬k=j:=λe=>hj e.symm
      simp[hj,this]
    |succ d =>
     simp only[Jcz]at h;rw[eraseIdx_cons_succ,iZ,iZ,ih d hn.2 h];by_cases hx:x.1=j
     .have:¬j=k:=λe=>hn.1 (Jdb.2 ⟨_,Jcv h,by rw[hx,e]⟩)
      simp[hx,this]
     .simp[hx]
  exact key l d hn h2
def fZ(w:World)(m:Nat)(f:Int->Option Value):Prop:=∃l,mH w m l/\∀k,gL l k=f k
def qM(f:Int->Option Value)(k:Int)(v:Option Value):Int->Option Value:=λj=>if j=k then v else f j
section
variable{P:Program}{w:World}{m:Nat}{f:Int->Option Value}
theorem fZ.same{w':World}(h:fZ w m f)(hs:cO w w'):fZ w' m f:=by
 obtain⟨l,h1,h2⟩:=h;exact⟨l,h1.same hs,h2⟩
theorem fZ.keep{w':World}(h:fZ w m f)(hs:w'.heap[m]?=w.heap[m]?):fZ w' m f:=by
 obtain⟨l,h1,h2⟩:=h;exact⟨l,h1.keep hs,h2⟩
theorem fZ.lt(h:fZ w m f):m<w.heap.size:=by
 obtain⟨l,⟨⟨es,c,h1,_⟩,_⟩,_⟩:=h;exact ae h1
theorem Ee{t key e:TypeId}{z:Value}{k:Int}(ht:P.underlying t=some (.map key e))(hk:P.underlying key=some (.int .u32))(hz:∀w,(zeroValue e).run P w=.ok z w)(h:fZ w m f)(ok:Bool):(Instr.lookup t (.map (some m)) (.int .u32 k) ok).run P w=.ok (if ok then .tuple #[(f k).getD z,.bool (f k).isSome]else(f k).getD z) w:=by
 obtain⟨l,h1,h2⟩:=h;have e:=NY (k:=k) ht hk hz h1;have hl:=h2 k;unfold gL at hl;cases ok with
 |true =>
  rw[e];cases hi:idx l k with
  |none=>rw[hi]at hl;simp[<-hl]
  |some p=>rw[hi]at hl;simp[<-hl]
 |false =>
  obtain⟨es,c,g1,g2,_,_⟩:=h1.ex;have hf:=za k es.toList l 0 g2;have hc:=xG (P:=P) (k:=k) (b:=es.isEmpty) hk 9999 w;simp only[Nat.reduceAdd]at hc;have hi:idx l k=idx.go k l 0:=rfl;rw[hi]at hl;cases hg:idx.go k l 0 with
  |none =>
   rw[hg]at hf hl;simp[Instr.lookup,run_underlying ht,run_underlying hk,getObj,g1,Sem.run,hz,Instr.findKey,hf,hc,<-hl]
  |some p =>
   rw[hg]at hf hl;obtain⟨i,v⟩:=p;simp[Instr.lookup,run_underlying ht,run_underlying hk,getObj,g1,Sem.run,Instr.findKey,hf,hc,<-hl]
theorem Ob{t key e:TypeId}{k:Int}{v:Value}(ht:P.underlying t=some (.map key e))(hk:P.underlying key=some (.int .u32))(h:fZ w m f):∃w',(Instr.mapUpdate t (.map (some m)) (.int .u32 k) v).run P w=.ok () w'/\fZ w' m (qM f k (some v))/\GB (some m) w w':=by
 obtain⟨l,h1,h2⟩:=h;obtain⟨w',g1,g2,g3⟩:=NZ (P:=P) (k:=k) (v:=v) ht hk h1;exact⟨w',g1,⟨_,g2,λj=>by rw[S9 h1.keys,qM,h2]⟩,g3⟩
theorem Od{t ty key e:TypeId}{k:Int}(ht:P.underlying t=some (.map key e))(hk:P.underlying key=some (.int .u32))(h:fZ w m f):∃w',(Builtin.delete_ #[t,key] ty #[.map (some m),.int .u32 k]).run P w=.ok (.tuple #[]) w'/\fZ w' m (qM f k none)/\GB (some m) w w':=by
 obtain⟨l,h1,h2⟩:=h;obtain⟨w',g1,g2,g3⟩:=N7 (P:=P) (ty:=ty) (k:=k) ht hk h1;exact⟨w',g1,⟨_,g2,λj=>by rw[Td h1.keys,qM,h2]⟩,g3⟩
theorem QE{t ty key e:TypeId}(ht:P.underlying t=some (.map key e))(h:fZ w m f):∃w',(Builtin.clear_ #[t] ty #[.map (some m)]).run P w=.ok (.tuple #[]) w'/\fZ w' m (λ_=>none)/\GB (some m) w w':=by
 obtain⟨l,h1,h2⟩:=h;obtain⟨w',g1,g2,g3⟩:=QA (P:=P) (ty:=ty) ht h1;exact⟨w',g1,⟨_,g2,λ_=>rfl⟩,g3⟩
end
def nS(w:World)(it m:Nat)(l todo:List (Int×Value))(cur:Option (Int×Value)):Prop:=∃es clock since seen c0,w.heap[m]?=some (.map es clock)/\es.toList.map (λe=>(e.key,e.val))=l.map (λp=>(Value.int .u32 p.1,p.2))/\(es.toList.map MapEntry.born).Nodup/\(∀e∈es.toList,e.born<since)/\since<=c0/\since<=clock/\w.heap[it]?=some (.mapIter (some m) since seen c0)/\(leftOf es seen).toList.map (λe=>(e.key,e.val))=todo.map (λp=>(Value.int .u32 p.1,p.2))/\(l.map Prod.fst).Nodup/\∀p,cur=some p->c0=clock/\∃e∈es.toList,seen.back?=some e.born/\e.key=.int .u32 p.1/\e.val=p.2
section
variable{P:Program}{w w':World}{it m:Nat}{l todo:List (Int×Value)}{cur:Option (Int×Value)}
theorem nS.keep(h:nS w it m l todo cur)(h1:w'.heap[it]?=w.heap[it]?)(h2:w'.heap[m]?=w.heap[m]?):nS w' it m l todo cur:=by
 unfold nS at h |-;rw[h1,h2];exact h
theorem nS.ne(h:nS w it m l todo cur):it≠m:=by
 obtain⟨es,clock,since,seen,c0,h1,_,_,_,_,_,h7,_⟩:=h;rintro rfl;rw[h1]at h7;cases h7
theorem nS.map(h:nS w it m l todo cur):mH w m l:=by
 obtain⟨es,clock,since,seen,c0,h1,h2,h3,h4,h5,h6,h7,h8,h9,_⟩:=h;exact⟨⟨es,clock,h1,h2,h3,λe he=>Jbz (h4 e he) h6⟩,h9⟩
theorem QF{t key e:TypeId}(ht:P.underlying t=some (.map key e))(h:mH w m l):∃o,(Instr.range t (.map (some m))).run P w=.ok (.pointer (some ⟨w.heap.size,0,none⟩)) (w.alloc o)/\nS (w.alloc o) w.heap.size m l l none:=by
 obtain⟨es,c,h1,h2,h3,h4⟩:=h.ex;refine⟨.mapIter (some m) c #[] c,?_,es,c,c,#[],c,(alloc_old (ae h1) _).trans h1,h2,h3,h4,Jb0 _,Jb0 _,je _ _,?_,h.keys,nofun⟩
 .simp[Instr.range,run_underlying ht,getObj,h1,Sem.run]
 .have:leftOf es #[]=es:=by unfold leftOf;simp
  rw[this];exact h2
theorem Te{ty:TypeId}(h:nS w it m l todo cur) :
 (todo=[]/\(Instr.next (.pointer (some ⟨it,0,none⟩)) false ty).run P w=.ok (.tuple #[.bool false]) w) \/
 ∃i p w',todo[i]?=some p/\(Instr.next (.pointer (some ⟨it,0,none⟩)) false ty).run P w=.ok (.tuple #[.bool true,.int .u32 p.1,p.2]) w'/\nS w' it m l (todo.eraseIdx i) (some p)/\GB (some it) w w':=by
 have hne:=h.ne;obtain⟨es,clock,since,seen,c0,h1,h2,h3,h4,h5,h6,h7,h8,h9,_⟩:=h;rcases run_next_at (P:=P) w ty it m since c0 seen es clock h7 h1 h4 h5 with⟨ha,hb⟩|⟨e,he,w1,hw,hr⟩
 .refine .inl ⟨?_,hb⟩
  have:(leftOf es seen).toList=[]:=by
   have:(leftOf es seen).toList.length=0:=by simpa using ha
   exact Jcq this
  rw[this]at h8;simpa using h8.symm
 .obtain⟨i,hi⟩:=Jdf.1 he
  have hk:=congrArg (λq=>q[i]?) h8;simp only[Jdd,hi,Jbb]at hk;obtain⟨p,hp1,hp2⟩:=Jbk.1 hk.symm;simp only[Jcw]at hp2;have hes:e∈es.toList:=by unfold leftOf at he;simp only[Array.toList_filter,mem_filter]at he;exact he.1
  rw[<-hp2.1,<-hp2.2]at hr;have hw1:w1.heap=w.heap/\w1.os=w.os/\w1.output=w.output:=by rcases hw with rfl|rfl<;>exact⟨rfl,rfl,rfl⟩
  have hlt:=ae h7;refine .inr ⟨i,p,_,hp1,hr,⟨es,clock,since,seen.push e.born,clock,?_,h2,h3,h4,h6,h6,?_,?_,h9,?_⟩,⟨hw1.2.1,hw1.2.2,?_,λx hx hne=>?_⟩⟩
  .show(w1.heap.setIfInBounds it _)[m]?=_
   rw[Array.getElem?_setIfInBounds_ne hne,hw1.1];exact h1
  .show(w1.heap.setIfInBounds it _)[it]?=_
   rw[Array.getElem?_setIfInBounds_self_of_lt (by rw[hw1.1];exact hlt)]
  .rw[SY,Ca ?_ hi,jZ,h8]
   .exact(jZ _ _ _).symm
   .unfold leftOf
    rw[Array.toList_filter];exact h3.sublist ((Jdp).map _)
  .intro q hq
   cases hq
   exact⟨rfl,e,hes,by simp,hp2.1.symm,hp2.2.symm⟩
  .show w.heap.size<=(w1.heap.setIfInBounds it _).size
   simp[hw1.1]
  .show(w1.heap.setIfInBounds it _)[x]?=_
   rw[Array.getElem?_setIfInBounds_ne (λe=>hne (by rw[e])),hw1.1]
theorem find_born:∀{L:List MapEntry} {e:MapEntry},(L.map MapEntry.born).Nodup->e∈L->L.find? (λx=>x.born==e.born)=some e
 | [],_,_,h=>by cases h
 |x::r,e,hn,h=>by
  simp only[Jcj,Jdk]at hn;rcases Jb3.1 h with rfl|h
  .simp
  .have:x.born≠e.born:=λq=>hn.1 (q▸mem_map_of_mem h)
   rw[find?_cons_of_neg (by simpa using this)];exact find_born hn.2 h
theorem QG{p:Int×Value}(h:nS w it m l todo (some p)):(Instr.entry (.pointer (some ⟨it,0,none⟩))).run P w=.ok (.tuple #[.int .u32 p.1,p.2]) w:=by
 obtain⟨es,clock,since,seen,c0,h1,h2,h3,h4,h5,h6,h7,h8,h9,h10⟩:=h;obtain⟨rfl,e,he,hb,hk,hv⟩:=h10 p rfl;have hf:es.find? (λx=>x.born==e.born)=some e:=by rw[<-Array.find?_toList];exact find_born h3 he
 simp[Instr.entry,getObj,h7,h1,Sem.run,hb,hf,hk,hv]
end
end
section
open Go
def aV{α:Type}(P:Program):Sem α->Option α
 |.pure a=>some a
 |.program k=>aV P (k P)
 |_=>none
theorem Jp{α:Type}{P:Program}{s:Sem α}{a:α}(h:aV P s=some a)(w:World)(es:Array Event):s.runT P w es=(.ok a w,es):=by
 induction s with
 |pure b=>simp only[aV,Jbc]at h;subst h;rfl
 |program k ih=>exact ih P h
 |_=>cases h
theorem ja{α:Type}{P:Program}{s:Sem α}{a:α}(h:aV P s=some a)(w:World):s.run P w=.ok a w:=by
 rw[<-Sem.runT_fst P s w #[],Jp h]
theorem Jq{α:Type}{P:Program}{s:Sem α}{a:α}(h:aV P s=some a)(w:World):s.events P w #[]=#[]:=by
 unfold Sem.events;rw[Jp h]
theorem aD{α β:Type}(P:Program)(s:Sem α)(f:α->Sem β):aV P (s>>=f)=(aV P s).bind λa=>aV P (f a):=by
 change aV P (s.bind f)=_;induction s with
 |pure b=>rfl
 |program k ih=>exact ih P
 |_=>rfl
theorem aF{α:Type}(P:Program)(a:α):aV P (pure a:Sem α)=some a:=rfl
theorem bA{P:Program}{t:TypeId}{d:TypeDesc}(h:P.underlying t=some d):aV P (underlying t)=some d:=by
 show aV P (match P.underlying t with | some d => pure d | none => stuck "no such type") = _;rw [h];rfl
theorem Ef{P:Program}{t:TypeId}{i:TypeInfo}(h:P.info? t=some i):aV P (typeInfo t)=some i:=by
 show aV P (match P.info? t with | some i => pure i | none => stuck "no such type") = _;rw [h];rfl
theorem gu{P:Program}{t:TypeId}{i:TypeInfo}(h:P.info? t=some i):aV P (sizeOf t)=some i.size:=by
 unfold sizeOf;rw[aD,Ef h];rfl
theorem uo{P:Program}{t:TypeId}{i:TypeInfo}{z:Value}(h:P.info? t=some i)(hz:i.zero=some z):aV P (zeroValue t)=some z:=by
 unfold zeroValue;rw[aD,Ef h];show aV P (match i.zero with|some v=>pure v|none=>_)=_;rw[hz];rfl
inductive Ty where
 |i (k:IntKind)|o|t|p|f|l (e:Nat)|m (k v:Nat)|s (fs:List Nat)|a (n e:Nat)
abbrev jg:=List (Nat×Ty)
noncomputable def jg.get(T:jg)(t:Nat):Option Ty:=rec none (λp _ ih=>bif Nat.beq t p.1 then some p.2 else ih) T
theorem jg.V4(u:Nat)(x:Ty)(r:jg)(t:Nat):jg.get ((u,x)::r) t=bif Nat.beq t u then some x else jg.get r t:=rfl
noncomputable def Tf(T:jg):Nat->Nat->List Value
 |0,_=>[]
 |n+1,t=>match T.get t with
  |none=>[]
  |some (.i k)=>[.int k 0]
  |some .o=>[.bool false]
  |some .t=>[.string ⟨#[]⟩]
  |some .p=>[.pointer none]
  |some .f=>[.nilFunc]
  |some (.l _)=>[.slice none 0 0]
  |some (.m _ _)=>[.map none]
  |some (.s fs)=>fs.flatMap (Tf T n)
  |some (.a k e)=>(replicate k (Tf T n e)).flatten
noncomputable def zc(T:jg)(t:Nat):List Value:=Tf T 6 t
noncomputable def bD(T:jg)(t:Nat):Nat:=(zc T t).length
noncomputable def rQ(T:jg):List Nat->Nat->List (Nat×Nat)
 | [],_=>[]
 |t::ts,o=>(o,t)::rQ T ts (o+bD T t)
inductive Dk where
 |i (k:IntKind)|o|t|p|f|l (e:Nat)|m (k v:Nat)|s (fs:List (Nat×Nat×Bool))|a (n e:Nat)|no
def dk:TypeDesc->Dk
 |.int k=>.i k
 |.bool=>.o
 |.string=>.t
 |.pointer _=>.p
 |.func _ _ _=>.f
 |.slice e=>.l e
 |.map k v=>.m k v
 | .struct fs => .s (fs.toList.map fun f => (f.offset, f.type, f.name == "_"))
 |.array n e=>.a n e
 |_=>.no
noncomputable def Yc(T:jg):Ty->Dk
 |.i k=>.i k
 |.o=>.o
 |.t=>.t
 |.p=>.p
 |.f=>.f
 |.l e=>.l e
 |.m k v=>.m k v
 |.s fs=>.s ((rQ T fs 0).map λp=>(p.1,p.2,false))
 |.a n e=>.a n e
def kQ:Ty->Bool
 |.s _=>true
 |.a _ _=>true
 |_=>false
noncomputable def zv(T:jg)(t:Nat)(x:Ty):Value:=match kQ x,zc T t with
 |false,v::_=>v
 |_,l=>.agg l.toArray
structure pR(P:Program)(T:jg):Prop where
 eq:(T.map λp=>((P.info? p.1).map λi=>(i.zero,i.size,decide (i.bytes<=2400)),(P.underlying p.1).map dk))=T.map λp=>(some (some (zv T p.1 p.2),bD T p.1,true),some (Yc T p.2))
section
variable{P:Program}{T:jg}
theorem jg.mem{T:jg}{t:Nat}{x:Ty}(h:T.get t=some x):(t,x)∈T:=by
 induction T with
 |nil=>cases h
 |cons p r ih =>
  obtain⟨u,y⟩:=p;rw[jg.V4]at h;cases hb:Nat.beq t u with
  |true =>
   rw[hb]at h;have:=Jdq hb;simp only[cond_true,Jbc]at h;subst this h;exact Jb4
  |false=>rw[hb]at h;exact Jb2 _ (ih h)
structure V6(P:Program)(T:jg)(t:Nat)(x:Ty)(i:TypeInfo)(d:TypeDesc):Prop where
 info:P.info? t=some i
 zero:i.zero=some (zv T t x)
 size:i.size=bD T t
 bytes:i.bytes<=2400
 under:P.underlying t=some d
 kind:dk d=Yc T x
theorem pR.is(h:pR P T){t:Nat}{x:Ty}(hx:T.get t=some x):∃i d,V6 P T t x i d:=by
 have h1:=map_inj_left.1 h.eq (t,x) (jg.mem hx);dsimp only at h1;cases hi:P.info? t with
 |none=>rw[hi]at h1;simp at h1
 |some i =>
  cases hu:P.underlying t with
  |none=>rw[hu]at h1;simp at h1
  |some d =>
   rw[hi,hu]at h1;simp only[Jbb,Jcw,Jbc,Jdr]at h1;obtain⟨⟨h2,h3,h4⟩,h5⟩:=h1;exact⟨i,d,hi,h2,h3,h4,hu,h5⟩
theorem Cb{d:TypeDesc}{k:IntKind}(h:dk d=.i k):d=.int k:=by cases d<;>simp_all [dk]
theorem Lr{d:TypeDesc}(h:dk d=.o):d=.bool:=by cases d<;>simp_all [dk]
theorem zV{d:TypeDesc}(h:dk d=.t):d=.string:=by cases d<;>simp_all [dk]
theorem QH{d:TypeDesc}(h:dk d=.p):∃e,d=.pointer e:=by cases d<;>simp_all [dk]
theorem abf{d:TypeDesc}(h:dk d=.f):∃a b c,d=.func a b c:=by cases d<;>simp_all [dk]
theorem oD{d:TypeDesc}{e:Nat}(h:dk d=.l e):d=.slice e:=by cases d<;>simp_all [dk]
theorem V7{d:TypeDesc}{k v:Nat}(h:dk d=.m k v):d=.map k v:=by cases d<;>simp_all [dk]
theorem Lt {d : TypeDesc} {l : List (Nat × Nat × Bool)} (h : dk d = .s l) : ∃ fs, d = .struct fs ∧ fs.toList.map (fun f => (f.offset, f.type, f.name == "_")) = l := by cases d <;> simp_all [dk]
theorem V8{d:TypeDesc}{n e:Nat}(h:dk d=.a n e):d=.array n e:=by cases d<;>simp_all [dk]
theorem QI(h:pR P T){t:Nat}{x:Ty}(hx:T.get t=some x):aV P (isAgg t)=some (kQ x):=by
 obtain⟨i,d,hd⟩:=h.is hx;unfold isAgg;rw[aD,bA hd.under];have hk:=hd.kind;cases x<;>simp only[Yc]at hk
 .rw[Cb hk];rfl
 .rw[Lr hk];rfl
 .rw[zV hk];rfl
 .obtain⟨_,rfl⟩:=QH hk;rfl
 .obtain⟨_,_,_,rfl⟩:=abf hk;rfl
 .rw[oD hk];rfl
 .rw[V7 hk];rfl
 .obtain⟨_,rfl,_⟩:=Lt hk;rfl
 .rw[V8 hk];rfl
end
abbrev Sg:=List (Nat×Value)
noncomputable def at?(s:Sg)(i:Nat):Option Value:=rec none (λp _ ih=>bif Nat.beq i p.1 then some p.2 else ih) s
theorem at?_cons(j:Nat)(v:Value)(s:Sg)(i:Nat):at? ((j,v)::s) i=bif Nat.beq i j then some v else at? s i:=rfl
noncomputable def ev(s:Sg):Operand->Option Value
 |.tmp t=>at? s t
 |.const v=>some v
 |.global g=>some (.pointer (some ⟨g,0,none⟩))
 |.func f=>some (.func (.func f) #[] #[])
inductive Qr where
 |v (x:Value)|c (p:Prop) (x:Value)|d (p:Prop) (x y:Value)|no
def Qr.ok(P:Program)(s:Sem Next):Qr->Prop
 |.v x=>aV P s=some (.value x)
 |.c p x=>p->aV P s=some (.value x)
 |.d p x y=>aV P s=some (.value y)/\(p->x=y)
 |.no=>True
def zW(r:Int):IntKind->Qr
 |.u8=>.c (0<=r/\r<=255) (.int .u8 r)
 |.u16=>.c (0<=r/\r<=65535) (.int .u16 r)
 |.u32=>.c (0<=r/\r<=4294967295) (.int .u32 r)
 |.u64=>.c (0<=r/\r<=18446744073709551615) (.int .u64 r)
 |.i64=>.c (-9223372036854775808<=r/\r<=9223372036854775807) (.int .i64 r)
 |_=>.no
def agR(r:Int):IntKind->Qr
 |.u8=>.d (0<=r/\r<=255) (.int .u8 r) (.int .u8 (IntKind.u8.wrap r))
 |.u32=>.d (0<=r/\r<=4294967295) (.int .u32 r) (.int .u32 (IntKind.u32.wrap r))
 |.u64=>.d (0<=r/\r<=18446744073709551615) (.int .u64 r) (.int .u64 (IntKind.u64.wrap r))
 |.i64=>.d (-9223372036854775808<=r/\r<=9223372036854775807) (.int .i64 r) (.int .i64 (IntKind.i64.wrap r))
 |_=>.no
def Gp:IntKind->IntKind->Bool
 |.i64,.i64=>true
 |.u8,.u8=>true
 |.u32,.u32=>true
 |.u64,.u64=>true
 |_,_=>false
theorem Lu{k l:IntKind}(h:Gp k l=true):k=l:=by cases k<;>cases l<;>first|rfl|cases h
def Cc(op:BinOp)(k:IntKind)(a c:Int):Qr:=match op with
 |.add=>zW (a+c) k
 |.sub=>zW (a-c) k
 |.mul=>zW (a*c) k
 |.rem=>.c (c≠0) (.int k (a.tmod c))
 |.quo=>.c (c≠0) (.int k (k.wrap (a.tdiv c)))
 |.and=>.v (.int k (k.wrap (BitVec.ofInt k.bits a &&& BitVec.ofInt k.bits c).toNat))
 |.or=>.v (.int k (k.wrap (BitVec.ofInt k.bits a ||| BitVec.ofInt k.bits c).toNat))
 |.xor=>.no
 |.andNot=>.no
 |.eql=>.v (.bool (a==c))
 |.neq=>.v (.bool (a != c))
 |.lss=>.v (.bool (decide (a<c)))
 |.leq=>.v (.bool (decide (a<=c)))
 |.gtr=>.v (.bool (decide (a>c)))
 |.geq=>.v (.bool (decide (a>=c)))
 |_=>.no
def abg:Value->Value->Bool
 |.int _ a,.int _ b=>a==b
 |.bool a,.bool b=>a==b
 |.string a,.string b=>a==b
 |_,_=>false
def allEq:List Value->List Value->Bool
 |x::xs,y::ys=>abg x y&&allEq xs ys
 |_,_=>true
noncomputable def ael(T:jg):Nat->Nat->Bool
 |0,_=>false
 |n+1,t=>match T.get t with
  |some (.i _)=>true
  |some .o=>true
  |some .t=>true
  |some (.s fs)=>fs.all (ael T n)
  |_=>false
def Lv:List Value->List Value->Bool
 | [],[]=>true
 |.int k _::xs,.int l _::ys=>Gp k l&&Lv xs ys
 |.bool _::xs,.bool _::ys=>Lv xs ys
 |.string _::xs,.string _::ys=>Lv xs ys
 |_,_=>false
noncomputable def EP(T:jg)(op:BinOp)(t:Nat):Option Value->Option Value->Qr
 |some (.int k a),some (.int l c)=>match op with
  |.shl=>.c (0<=c) (.int k (k.wrap (a*2^min c.toNat k.bits)))
  |.shr=>.c (0<=c) (.int k (a.fdiv (2^min c.toNat k.bits)))
  |op=>bif Gp k l then Cc op k a c else .no
 |some (.bool a),some (.bool c)=>match op,T.get t with
  |.eql,some .o=>.v (.bool (a==c))
  |.neq,some .o=>.v (.bool (!(a==c)))
  |_,_=>.no
 |some (.string a),some (.string c)=>match op with
  |.eql=>.v (.bool (a.toList==c.toList))
  |.neq=>.v (.bool (!(a.toList==c.toList)))
  |_=>.no
 |some (.pointer a),some (.pointer none)=>match op,T.get t with
  |.eql,some .p=>.v (.bool a.isNone)
  |.neq,some .p=>.v (.bool (!a.isNone))
  |_,_=>.no
 |some (.slice a _ _),some (.slice none _ _)=>match op,T.get t with
  |.eql,some (.l _)=>.v (.bool a.isNone)
  |.neq,some (.l _)=>.v (.bool (!a.isNone))
  |_,_=>.no
 |_,_=>.no
def Jr(ρ:Operand->Option Value):List Operand->Option (List Value)
 | []=>some []
 |x::xs=>match ρ x,Jr ρ xs with
  |some v,some vs=>some (v::vs)
  |_,_=>none
def aG(l:List Value)(d n:Nat):List Value:=(l.drop d).take n
def xI(places:List (Nat×Nat)):List Value->List (Nat×Value)->Option (List Value)
 |cs,[]=>some cs
 |cs,(i,v)::rest=>match places[i]? with
  |none=>none
  |some (off,n)=>bif Nat.beq v.cells.toList.length n&&Nat.ble (off+n) cs.length then xI places (cs.take off++v.cells.toList++cs.drop (off+n)) rest else none
def Lx(ρ:Operand->Option Value):List (Nat×Operand)->Option (List (Nat×Value))
 | []=>some []
 |(i,x)::xs=>match ρ x,Lx ρ xs with
  |some v,some vs=>some ((i,v)::vs)
  |_,_=>none
noncomputable def uK(T:jg)(ρ:Operand->Option Value):Op->Qr
 |.move x=>match ρ x with|some v=>.v v|none=>.no
 |.assign x=>match ρ x with|some v=>.v v|none=>.no
 |.pick c a b=>match ρ c,ρ a,ρ b with|some (.bool t),some u,some v=>.v (bif t then u else v)|_,_,_=>.no
 |.fieldAddr s x f=>match ρ x,T.get s with
  |some (.pointer (some ⟨b,o,none⟩)),some (.s fs)=>match(rQ T fs 0)[f]? with
   |some (d,u)=>match T.get u with
    |some _=>bif Nat.beq (bD T u) 0 then .no else .v (.pointer (some ⟨b,o+d,none⟩))
    |none=>.no
   |none=>.no
  |_,_=>.no
 |.field s x f=>match ρ x,T.get s with
  |some (.agg cs),some (.s fs)=>match(rQ T fs 0)[f]? with
   |some (d,u)=>match T.get u with
    |some (.s _)=>.v (.agg (aG cs.toList d (bD T u)).toArray)
    |some (.a _ _)=>.no
    |some _=>match cs.toList[d]? with|some v=>.v v|none=>.no
    |none=>.no
   |none=>.no
  |_,_=>.no
 |.indexAddr t x i=>match ρ x,ρ i,T.get t with
  |some (.slice (some ⟨b,o,none⟩) n _),some (.int _ j),some (.l e)=>match T.get e with
   |some _=>.c (0<=j/\j<n) (.pointer (some ⟨b,o+j.toNat*bD T e,none⟩))
   |none=>.no
  |some (.pointer (some ⟨b,o,none⟩)),some (.int _ j),some (.a n e)=>match T.get e with
   |some _=>.c (0<=j/\j<n) (.pointer (some ⟨b,o+j.toNat*bD T e,none⟩))
   |none=>.no
  |_,_,_=>.no
 |.index t x i=>match ρ x,ρ i,T.get t with
  |some (.string s),some (.int _ j),some .t=>.c (0<=j/\j<s.size) (.int .u8 (s.data.toList.getD j.toNat 0).toNat)
  |_,_,_=>.no
 |.binOp op t x y _=>EP T op t (ρ x) (ρ y)
 |.unOp op _ x=>match op,ρ x with | .not,some (.bool b)=>.v (.bool (!b)) | .neg,some (.int .i64 n)=>.c (-9223372036854775808<=0-n/\0-n<=9223372036854775807) (.int .i64 (0-n))|_,_=>.no
 |.convert s d x=>match ρ x,T.get s,T.get d with
  |some (.int _ n),some (.i _),some (.i k)=>agR n k
  |some (.string u),some .t,some .t=>.v (.string u)
  |_,_,_=>.no
 |.extract x i=>match ρ x with
  |some (.tuple vs)=>match vs.toList[i]? with|some v=>.v v|none=>.no
  |_=>.no
 |.build t ps=>match T.get t,Lx ρ ps.toList with
  |some (.s fs),some vs=>match xI ((rQ T fs 0).map λp=>(p.1,bD T p.2)) (zc T t) vs with
   |some cs=>bif fs.all (λu=>(T.get u).isSome)then .v (.agg cs.toArray)else .no
   |none=>.no
  |_,_=>.no
 |.makeFunc fn a b=>match Jr ρ a.toList,Jr ρ b.toList with|some u,some v=>.v (.func fn u.toArray v.toArray)|_,_=>.no
 |.nilCheck x=>match ρ x with
  |some (.pointer (some a))=>.v (.pointer (some a))
  |some (.func (.func f) u v)=>.v (.func (.func f) u v)
  |_=>.no
 |.slice t x lo hi none=>match ρ x,T.get t with
  |some (.string s),some .t=>match lo.bind ρ,hi.bind ρ,lo.isNone,hi.isNone with
   |some (.int _ a),some (.int _ b),_,_=>.c (0<=a/\a<=b/\b<=s.size) (.string (s.extract a.toNat b.toNat))
   |some (.int _ a),none,_,true=>.c (0<=a/\a<=s.size) (.string (s.extract a.toNat s.size))
   |_,_,_,_=>.no
  |some (.slice a n cap),some (.l e)=>match T.get e with
   |some _=>match lo.bind ρ,hi.bind ρ,lo.isNone,hi.isNone with
    |some (.int _ l),some (.int _ h),_,_=>.c (0<=l/\l<=h/\h<=cap) (.slice (if cap=l.toNat then a else a.map (·.add (l.toNat*bD T e))) (h.toNat-l.toNat) (cap-l.toNat))
    |some (.int _ l),none,_,true=>.c (0<=l/\l<=n/\n<=cap) (.slice (if cap=l.toNat then a else a.map (·.add (l.toNat*bD T e))) (n-l.toNat) (cap-l.toNat))
    |none,some (.int _ h),true,_=>.c (0<=h/\h<=cap) (.slice a h.toNat cap)
    |_,_,_,_=>.no
   |none=>.no
  |_,_=>.no
 |.slice t x (some lo) (some hi) (some mx)=>match ρ x,T.get t with
  |some (.slice a _ cap),some (.l e)=>match T.get e with
   |some _=>match ρ lo,ρ hi,ρ mx with
    |some (.int _ l),some (.int _ h),some (.int _ m)=>.c (0<=l/\l<=h/\h<=m/\m<=cap) (.slice (if m.toNat=l.toNat then a else a.map (·.add (l.toNat*bD T e))) (h.toNat-l.toNat) (m.toNat-l.toNat))
    |_,_,_=>.no
   |none=>.no
  |_,_=>.no
 |.call {callee:=.builtin b,args,argTypes}=>match b,args.toList,argTypes.toList with
  |.len,[x],[t]=>match ρ x,T.get t with
   |some (.string s),some .t=>.v (.int .i64 s.size)
   |some (.slice _ n _),some (.l _)=>.v (.int .i64 n)
   |_,_=>.no
  |.cap,[x],[t]=>match ρ x,T.get t with
   |some (.slice _ _ n),some (.l _)=>.v (.int .i64 n)
   |_,_=>.no
  |.max,[x,y],_=>match ρ x,ρ y with
   |some (.int k a),some (.int _ b)=>.v (.int k (if b>a then b else a))
   |_,_=>.no
  |.min,[x,y],_=>match ρ x,ρ y with
   |some (.int k a),some (.int _ b)=>.v (.int k (if b<a then b else a))
   |_,_=>.no
  |_,_,_=>.no
 |_=>.no
end
