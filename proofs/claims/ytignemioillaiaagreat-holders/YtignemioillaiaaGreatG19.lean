/- Lemmas. -/
import Derived.Test.YtignemioillaiaaGreatG18
namespace Go.Proofs.YtignemioillaiaaGreat
set_option maxHeartbeats 8000000
set_option linter.unusedSectionVars false
set_option maxRecDepth 100000
open List
section
open Go Go.Conc
section
variable{P:Program}[ko P]{main:Bool}{D:World->World->Array Event->Prop}{X:Goroutine->World->Prop}{b:Frame}{k:List Item}{cs:List Frame}{ops:Array Oper}{E:mH P}{n:Nat}{K:Sg->World->Prop}
theorem XU(hX:SX P main D X)(hk:b.kind≠.early)(hK:∀s w,K s w->∀a,Fit n s a->X (G (b.at a k) cs) w):∀(os:List Oper) (i:Nat) (s:Sg) (w:World) (a:Act),(∀j o,os[j]? = some o->ops[i+j]? = some o)->Fit n s a->Kb E n ops K os s w->X (G (b.at a (.inRegion ops (range' i os.length)::k)) cs) w:=by
 intro os;induction os with
 |nil=>exact λi s w a _ hf h=>aI.regionEnd hX.c (hK s w h a hf)
 |cons o os ih =>
  intro i s w a hos hf h;have ho:ops[i]? = some o:=hos 0 o rfl;have ZW:∀j o',os[j]? = some o'->ops[i+1+j]? = some o':=λj o' hj=>by
   have:=hos (j+1) o' hj;rwa [show i+(j+1)=i+1+j by omega]at this
  rw[length_cons,range'_succ];rw[Q8]at h;obtain⟨s',hf',⟨hw,h⟩|⟨hw,h⟩⟩:=Je hf h
  ·refine iA.go hX ho hw hk (Q7 (K':=λv w'=>X (G (b.at (a.put o.dst v) (.inRegion ops (range' (i+1) os.length)::k)) cs) w') hf'.ev h (λv w' hx=>ih (i+1) _ w' _ ZW (hf'.put o.dst v) hx) (λv w w' hs hx=>hX.rely hs hx)) λ_ _ hx=>hx
  ·exact aI.unw hX.c ho hw (ih (i+1) _ w _ ZW (hf'.put o.dst undef) h)
structure Db(ops:Array Oper)(l:List Nat)(m:Array Bool):Prop where
 size:m.size=ops.size
 get:∀i,i<ops.size->m.getD i true=l.contains i
theorem Db.ZX{l:List Nat}{m:Array Bool}(h:Db ops l m){i:Nat}(hi:i<ops.size):m.getD i false=l.contains i:=by
 rw[<-h.get i hi,Array.getD_eq_getD_getElem?,Array.getD_eq_getD_getElem?,Array.getElem?_eq_getElem (by rw[h.size];exact hi)];rfl
theorem Db.set{l:List Nat}{m:Array Bool}(h:Db ops l m){i:Nat}(hi:i<ops.size):Db ops (i::l) (m.setIfInBounds i true):=by
 refine⟨by simp[h.size],λj hj=>?_⟩;by_cases hij:i=j
 ·subst hij
  rw[Array.getD_eq_getD_getElem?,Array.getElem?_setIfInBounds_self_of_lt (by rw[h.size];exact hi)];simp
 ·rw[getD_set_ne true hij,h.get j hj]
  have:¬j=i:=λe=>hij e.symm
  simp[this]
theorem Nh:∀(os:List Oper) (i j:Nat) (o:Oper),(j,o)∈vR os i↔∃d,j=i+d/\os[d]? = some o
 | [],i,j,o=>by simp[vR]
 |x::os,i,j,o=>by
  unfold vR;rw[mem_cons,Nh os (i+1) j o];constructor
  ·rintro(h|⟨d,h1,h2⟩)
   ·cases h;exact⟨0,rfl,rfl⟩
   ·exact⟨d+1,by omega,h2⟩
  ·rintro⟨d,h1,h2⟩
   cases d with
   |zero=>cases h2;exact .inl (by rw[h1];rfl)
   |succ d=>exact .inr ⟨d,by omega,h2⟩
theorem Ck{j:Nat}{o:Oper}:(j,o)∈vR ops.toList 0↔ops[j]? = some o:=by
 rw[Nh];constructor
 ·rintro⟨d,h1,h2⟩
  rw[Array.getElem?_toList]at h2;rw[h1,Nat.zero_add];exact h2
 ·exact λh=>⟨j,by omega,by rw[Array.getElem?_toList];exact h⟩
theorem UB{l:List Nat}{m:Array Bool}(h:Db ops l m){o:Oper}(hb:tK l o=true)(hin:∀e∈o.after,Region.binds .any e=true->e.on<ops.size):∀e∈o.after,Region.binds .any e=true->m.getD e.on false=true:=by
 intro e he hbi;have:=all_eq_true.1 hb e (by simpa using he);simp only[hbi,Bool.not_true,Bool.false_or]at this;rw[h.ZX (hin e he hbi)];exact this
theorem Fg(h:Ff ops=true){i:Nat}{o:Oper}(ho:ops[i]? = some o):∀e∈o.after,e.on<ops.size:=by
 intro e he;have h1:=all_eq_true.1 h o (by simpa using Array.mem_of_getElem? ho);have h2:=all_eq_true.1 h1 e (by simpa using he);have:=Nat.le_of_ble_eq_true h2;omega
theorem Ih{l:List Nat}{m:Array Bool}(h:Db ops l m)(hin:Ff ops=true){i:Nat}:i∈Region.ready .any ops m↔∃o,ops[i]? = some o/\l.contains i=false/\tK l o=true:=by
 rw[mem_ready];constructor
 ·rintro⟨h1,o,ho,h2⟩
  have hi:i<ops.size:=(Array.getElem?_eq_some_iff.1 ho).1;refine⟨o,ho,by rw[<-h.get i hi];exact h1,?_⟩;refine all_eq_true.2 λe he=>?_
  have he':e∈o.after:=by simpa using he
  cases hb:Region.binds .any e with
  |false=>rfl
  |true =>
   have:=h2 e he' hb;rw[h.ZX (Fg hin ho e he')]at this;simpa using this
 ·rintro⟨o,ho,h1,h2⟩
  have hi:i<ops.size:=(Array.getElem?_eq_some_iff.1 ho).1;exact⟨by rw[h.get i hi];exact h1,o,ho,UB h h2 λe he _=>Fg hin ho e he⟩
def left(ops:Array Oper)(l:List Nat):Nat:=((List.range ops.size).filter λi=>!l.contains i).length
theorem wW{l:List Nat}{i:Nat}(hi:i<ops.size)(hl:l.contains i=false):left ops (i::l)+1=left ops l:=by
 unfold left;have key:∀(r:List Nat),r.Nodup->i∈r->(r.filter λj=>!(i::l).contains j).length+1=(r.filter λj=>!l.contains j).length:=by
  intro r;induction r with
  |nil=>intro _ h;cases h
  |cons x r ih =>
   intro hn hm;rw[nodup_cons]at hn;rcases mem_cons.1 hm with rfl|hm
   ·rw[filter_cons_of_neg (by simp),filter_cons_of_pos (by simpa using hl),length_cons]
    congr 2
    refine filter_congr λy hy=>?_
    have:¬y=i:=λe=>hn.1 (e▸hy)
    simp[this]
   ·have hx:¬x=i:=λe=>hn.1 (e▸hm)
    have e1:(!(i::l).contains x) = !l.contains x:=by simp[hx]
    cases hc : !l.contains x with
    |true =>
     rw[filter_cons_of_pos (by rw[e1];exact hc),filter_cons_of_pos (p:=λj=>!l.contains j) hc,length_cons,length_cons,ih hn.2 hm]
    |false =>
     rw[filter_cons_of_neg (by rw[e1,hc];decide),filter_cons_of_neg (p:=λj=>!l.contains j) (by rw[hc];decide),ih hn.2 hm]
 exact key _ nodup_range (mem_range.2 hi)
theorem ZY{w:World}{t:Nat}{v:Option Value}{K:Value->World->Prop}(h:yw E w K t v):yw E w (λv w'=>w'=w/\K v w') t v:=by
 unfold yw at h |-;split at h
 ·dsimp only
  split at h
  ·rename_i y hy
   obtain⟨xs,ty,hW,h⟩:=h;refine⟨xs,ty,hW,?_⟩;cases hs:kI y with
   |true =>
    rw[hs]at h;dsimp only[iB]at h |-;cases h0:Nat.beq (bD E.T t) 0 with
    |true=>rw[h0]at h;exact(show False from h).elim
    |false=>rw[h0]at h;dsimp only at h;obtain⟨c,h1,h2,h3⟩:=h;exact⟨c,h1,h2,rfl,h3⟩
   |false=>rw[hs]at h;dsimp only[iB]at h;obtain⟨v,h1,h3⟩:=h;exact⟨v,h1,rfl,h3⟩
  ·exact h.elim
 ·exact h.elim
theorem ZZ{w:World}{t:Nat}{ok:Bool}{u v:Option Value}{K:Value->World->Prop}(h:Ig E w K t ok u v):Ig E w (λv w'=>w'=w/\K v w') t ok u v:=by
 unfold Ig at h |-;split at h
 ·dsimp only
  split at h
  ·obtain⟨f,h1,h2⟩:=h
   exact⟨f,h1,rfl,h2⟩
  ·exact h.elim
 ·exact h.elim
theorem Kc{F:Nat->Oper->Prop}:∀{R:List (Nat×Oper)} {i:Nat} {o:Oper},Pg F R->(i,o)∈R->F i o
 | [],_,_,_,h=>by cases h
 | [(j,x)],i,o,h,hm=>by
  rcases mem_cons.1 hm with e|e
  ·cases e;exact h
  ·cases e
 |(j,x)::y::r,i,o,h,hm=>by
  rcases mem_cons.1 hm with e|e
  ·cases e;exact h.1
  ·exact Kc (R:=y::r) h.2 e
theorem Z4{o:Oper}(h:Nat.blt (kd o.op) 2=true):kd o.op=0\/kd o.op=1:=by
 have:=Nat.le_of_ble_eq_true h;omega
theorem wX{S:World->Prop}{q0:Prop}(h0:q0){_s:Sg}{a:Act}{o:Oper}{x:Value}(hw:Region.wanted o (yielded ops a.tmps)=true)(q:aW P (execOp a.eval o)=some (.value x)):qZ P ops S q0 o x a :=
 .inl ⟨hw,h0,λw _=>⟨aJ.quiet q w,iR q w⟩⟩
theorem Z5(hX:SX P main D X)(hfree:yx ops=true)(hin:Ff ops=true)(hK:∀s w,K s w->∀a,Fit n s a->X (G (b.at a k) cs) w):∀(f:Nat) (l:List Nat) (s:Sg) (Γ:List (World->Prop)) (w:World) (a:Act) (m:Array Bool) (c:Nat),Db ops l m->Closed ops m->left ops l<=c->Fit n s a->(∀F∈Γ,∀w w',w'.heap=w.heap->F w->F w')->ui E n ops K f l s Γ w->AnyS P X b k cs ops (ik Γ) (nO ops) (q8 ops) c m a w:=by
 intro f;induction f with
 |zero=>intro l s Γ w a m c _ _ _ _ _ h;exact h.elim
 |succ f ih =>
  intro l s Γ w a m c hm hc hl hf hΓ h;have Nc:∀w w',w'.heap=w.heap->ik Γ w->ik Γ w':=by
   intro w w' he;clear h;induction Γ with
   |nil=>exact λ_=>trivial
   |cons F r ihr=>exact λhh=>⟨hΓ F mem_cons_self _ _ he hh.1,ihr (λG hG=>hΓ G (mem_cons_of_mem _ hG)) hh.2⟩
  rw[Uz]at h;have hR:∀i,i∈Region.ready .any ops m↔∃o,(i,o)∈(vR ops.toList 0).filter λp=>!l.contains p.1 && tK l p.2:=by
   intro i;rw[Ih hm hin];constructor
   ·rintro⟨o,h1,h2,h3⟩;exact⟨o,mem_filter.2 ⟨Ck.2 h1,by show(!l.contains i && tK l o)=true;rw[h2,h3];rfl⟩⟩
   ·rintro⟨o,h1⟩
    obtain⟨h1,h2⟩:=mem_filter.1 h1;simp only[Bool.and_eq_true,Bool.not_eq_true']at h2;exact⟨o,Ck.1 h1,h2.1,h2.2⟩
  generalize hRR:((vR ops.toList 0).filter λp=>!l.contains p.1 && tK l p.2)=R at h hR;have hmem:∀i o,(i,o)∈R->ops[i]? = some o/\i<ops.size/\l.contains i=false:=by
   intro i o Fh;rw[<-hRR]at Fh;obtain⟨h1,h2⟩:=mem_filter.1 Fh;simp only[Bool.and_eq_true,Bool.not_eq_true']at h2;have h3:=Ck.1 h1;exact⟨h3,(Array.getElem?_eq_some_iff.1 h3).1,h2.1⟩
  cases R with
  |nil =>
   have hnil:Region.ready .any ops m=[]:=by
    cases hrr:Region.ready .any ops m with
    |nil=>rfl
    |cons x xs =>
     obtain⟨o,ho⟩:=(hR x).1 (by rw[hrr];exact mem_cons_self);cases ho
   have hx:=hK s w h a hf;cases c with
   |zero=>exact⟨hnil,hx⟩
   |succ c=>exact⟨λ_=>hx,λi hi=>by rw[hnil]at hi;cases hi⟩
  |cons p0 R' =>
   have hcp:0<c:=by
    obtain⟨h1,h2,h3⟩:=hmem p0.1 p0.2 mem_cons_self;have:=wW h2 h3;omega
   obtain⟨c,rfl⟩:∃c',c=c'+1:=⟨c - 1,by omega⟩;dsimp only at h;split at h
   ·rename_i i o hfind
    have Fh:=mem_of_find?_eq_some hfind;obtain⟨ho,hlt,hcon⟩:=hmem i o Fh;have Bf:i∈Region.ready .any ops m:=(hR i).2 ⟨o,Fh⟩;have hk0:kd o.op=0:=by have:=find?_some hfind;exact Nat.eq_of_beq_eq_true this
    have Nf:nO ops i=false:=by
     unfold nO q8;rw[Array.getElem?_toList,ho];dsimp only;rw[hk0];rfl
    have hlc:=wW hlt hcon;have take:∀{s':Sg} {x:Value},Fit n s' a->qZ P ops (λw=>true=false->ik Γ w) (nO ops i=false) o x a->ui E n ops K f (i::l) (dM n s' o.dst x) Γ w->AnyS P X b k cs ops (ik Γ) (nO ops) (q8 ops) (c+1) m a w:=λ{s' x} hf' hy hd =>
     zf hX Nc hfree ho true nofun c m a w hc Bf hy nofun (ih (i::l) _ Γ w _ _ c (hm.set hlt) (hc.set Bf) (by omega) (hf'.put o.dst x) hΓ hd)
    obtain⟨s',hf',⟨hw,h⟩|⟨hw,h⟩⟩:=Je hf h
    ·have hq:=O7 E.tab hf'.ev o
     generalize ZT:iL E.T (ev s') o.op=qa at h hq;cases qa with
     |v x=>exact take hf' (wX Nf (_s:=s') hw hq) h
     |c p x=>exact take hf' (wX Nf (_s:=s') hw (hq h.1)) h.2
     |d p x y =>
      rcases h with⟨hp,h⟩|h
      ·rw[hq.2 hp]at h;exact take hf' (wX Nf (_s:=s') hw hq.1) h
      ·exact take hf' (wX Nf (_s:=s') hw hq.1) h
     |no=>exact h.elim
    ·exact take hf' (.inr ⟨hw,rfl⟩) h
   ·rename_i hnf
    refine⟨λe=>?_,λi hi o ho=>?_⟩
    ·have:=(hR p0.1).2 ⟨p0.2,mem_cons_self⟩
     rw[e]at this;cases this
    ·obtain⟨o',Fh⟩:=(hR i).1 hi
     obtain⟨ho',hlt,hcon⟩:=hmem i o' Fh;rw[ho]at ho';cases ho'
     have h1:=Kc h Fh;have hlc:=wW hlt hcon;have next:∀{s':Sg} {v:Value} {w':World},Fit n s' a->ui E n ops K f (i::l) (dM n s' o.dst v) Γ w'->AnyS P X b k cs ops (ik Γ) (nO ops) (q8 ops) c (m.setIfInBounds i true) (a.put o.dst v) w':=λ{s' v w'} hf' hd =>
      ih (i::l) _ Γ w' _ _ c (hm.set hlt) (hc.set hi) (by omega) (hf'.put o.dst v) hΓ hd
     have hes:∀{q:Nat},kd o.op=q->q<2->nO ops i=false:=by
      intro q hq h2;unfold nO q8;rw[Array.getElem?_toList,ho];dsimp only;rw[hq,show Nat.blt q 2=true from Nat.ble_eq_true_of_le h2];rfl
     obtain⟨s',hf',⟨hw,h1⟩|⟨hw,h1⟩⟩:=Je hf h1
     ·rw[if_pos hw]
      have UC:∀(v:Value) (w1 w2:World),cB w1 w2->(((nO ops i=true->ik Γ w1)/\(q8 ops i=true->w1.heap=w.heap))/\AnyS P X b k cs ops (ik Γ) (nO ops) (q8 ops) c (m.setIfInBounds i true) (a.put o.dst v) w1)->(((nO ops i=true->ik Γ w2)/\(q8 ops i=true->w2.heap=w.heap))/\AnyS P X b k cs ops (ik Γ) (nO ops) (q8 ops) c (m.setIfInBounds i true) (a.put o.dst v) w2):=λv w1 w2 hs hx =>
       ⟨⟨λe=>Nc _ _ hs.heap (hx.1.1 e),λe=>hs.heap.trans (hx.1.2 e)⟩,AnyS.same hX (λw w' hs=>Nc w w' hs.heap) _ _ _ _ _ hx.2 hs⟩
      split at h1
      ·rename_i t x hop
       have e1:=hes (q:=1) (by rw[hop];rfl) (by decide);exact Q0 hf'.ev hop (ZY h1) (λv w' hx=>⟨⟨λe=>(by rw[e1]at e;cases e),λ_=>by rw[hx.1]⟩,next hf' hx.2⟩) UC
      ·rename_i t x y ok hop
       have e1:=hes (q:=1) (by rw[hop];rfl) (by decide);exact J7 hf'.ev hop (ZZ h1) (λv w' hx=>⟨⟨λe=>(by rw[e1]at e;cases e),λ_=>by rw[hx.1]⟩,next hf' hx.2⟩) UC
      ·rename_i hn1 hn2
       have Fj:q8 ops i=false:=by
        cases hb:q8 ops i with
        |false=>rfl
        |true =>
         exfalso
         unfold q8 at hb;rw[Array.getElem?_toList,ho]at hb;rcases Z4 hb with h0|h0
         ·have:=find?_eq_none.1 hnf (i,o) Fh
          rw[h0]at this;exact absurd rfl this
         ·revert h0
          generalize o.op=op at hn1 hn2;cases op<;>intro h0<;>first|(exact hn1 _ _ rfl)|(exact hn2 _ _ _ _ rfl)|(cases h0;done)|skip
          rename_i c;obtain⟨ca,ar,at'⟩:=c;cases ca with
          |builtin bb=>cases bb<;>cases h0
          |value=>cases h0
          |invoke=>cases h0
       have hno:iL E.T (ev s') o.op=.no:=by
        unfold q8 at Fj;rw[Array.getElem?_toList,ho]at Fj;dsimp only at Fj;revert Fj
        generalize o.op=op;intro Fj;cases op<;>first|(cases Fj;done)|rfl|skip
        rename_i c;obtain⟨ca,ar,at'⟩:=c;cases ca with
        |builtin bb=>cases bb<;>first|(cases Fj;done)|rfl
        |value=>rfl
        |invoke=>rfl
       have h2:Nb E s' w (λv w'=>iB (nO ops i) (ik Γ w'/\ui E n ops K f (i::l) (dM n s' o.dst v) Γ w') (ui E n ops K f (i::l) (dM n s' o.dst v) Γ w')) o:=by
        unfold Nb;rw[hno];exact h1
       refine Q7 hf'.ev h2 (λv w' hx=>?_) UC;cases he:nO ops i with
       |true=>rw[he]at hx;dsimp only[iB]at hx;exact⟨⟨λ_=>hx.1,λe=>(by rw[Fj]at e;cases e)⟩,next hf' hx.2⟩
       |false=>rw[he]at hx;dsimp only[iB]at hx;exact⟨⟨nofun,λe=>(by rw[Fj]at e;cases e)⟩,next hf' hx⟩
     ·rw[if_neg (by rw[hw];decide)]
      exact next hf' h1
end
section
variable{P:Program}[ko P]{main:Bool}{D:World->World->Array Event->Prop}{X:Goroutine->World->Prop}{b:Frame}{k:List Item}{cs:List Frame}{ops:Array Oper}{E:mH P}{n:Nat}{K:Sg->World->Prop}
theorem Q9{s:Sg}{a:Act}{w:World}{o:Oper}{t:Nat}{x:Operand}{K:Value->(World->Prop)->Prop}(hr:∀x v,ev s x=some v->a.eval x=v)(hop:o.op=.load t x)(h:Ng E w t K (ev s x)):∃v F,K v F/\F w/\(∀w w',w'.heap=w.heap->F w->F w')/\∀w',F w'->aJ P (execOp a.eval o) w'/\(execOp a.eval o).run P w'=.ok (.value v) w':=by
 unfold Ng at h;split at h
 ·rename_i B off hx
  split at h
  ·rename_i y hy
   obtain⟨i,d,hd⟩:=E.tab.ok.is hy;obtain⟨xs,ty,hW,h⟩:=h;have ex:=hr _ _ hx;cases hs:kI y with
   |true =>
    rw[hs]at h;dsimp only[iB]at h;have h0:¬bD E.T t=0:=λe=>by rw[e]at h;exact h
    have h0':Nat.beq (bD E.T t) 0=false:=by cases hb:Nat.beq (bD E.T t) 0 with|true=>exact absurd (Nat.eq_of_beq_eq_true hb) h0|false=>rfl
    rw[h0']at h;dsimp only at h;obtain⟨c,hc,hl,h⟩:=h;refine⟨_,_,h,hW,λw w' he hF=>by rw[he];exact hF,λw' hF=>⟨aJ.plain (uW hop) w',Fa t hop ex hF hd.under ?_ (n:=c.length) ?_ ?_ c ?_⟩⟩
    ·have:=hd.shape;rw[hs]at this;cases d<;>exact this
    ·rw[hd.info,Option.map_some,hd.size,hl]
    ·refine Nat.ble_eq_true_of_le ?_
     have:(aK xs.toList off (bD E.T t)).length=bD E.T t:=by rw[hc,hl]
     unfold aK at this;rw[length_take,length_drop,Array.length_toList]at this;rw[hl];omega
    ·rw[hl];exact hc
   |false =>
    rw[hs]at h;dsimp only[iB]at h;obtain⟨v,hv,h⟩:=h;rw[Array.getElem?_toList]at hv;refine⟨_,_,h,hW,λw w' he hF=>by rw[he];exact hF,λw' hF=>⟨aJ.plain (uW hop) w',E9 t hop ex hF hd.under ?_ hv⟩⟩;have:=hd.shape;rw[hs]at this;cases d<;>exact this
  ·exact h.elim
 ·exact h.elim
theorem Z6{s:Sg}{a:Act}{w:World}{o:Oper}{t:Nat}{x y:Operand}{ok:Bool}{K:Value->(World->Prop)->Prop}(hr:∀x v,ev s x=some v->a.eval x=v)(hop:o.op=.lookup t x y ok)(h:Wm E w t ok K (ev s x) (ev s y)):∃v F,K v F/\F w/\(∀w w',w'.heap=w.heap->F w->F w')/\∀w',F w'->aJ P (execOp a.eval o) w'/\(execOp a.eval o).run P w'=.ok (.value v) w':=by
 unfold Wm at h;split at h
 ·rename_i m k hx hy
  split at h
  ·rename_i key e ht
   obtain⟨h1,h2,h3⟩:=ve ht;obtain⟨f,hm,h⟩:=h;refine⟨_,_,h,hm,λw w' he hF=>fP.keep hF (by rw[he]),λw' hF=>⟨aJ.plain (mJ (by rw[hop];rfl) (by rw[hop];rfl)) w',?_⟩⟩;have e1:execOp a.eval o=(do pure (Next.value (<-Instr.lookup t (a.eval x) (a.eval y) ok))):=by unfold execOp;rw[hop]
   rw[e1,hr _ _ hx,hr _ _ hy,Sem.run_bind,CZ h1 h2 h3 hF ok];cases ok<;>rfl
  ·exact h.elim
 ·exact h.elim
def HS(Γ:List (World->Prop)):Prop:=∀F∈Γ,∀w w',w'.heap=w.heap->F w->F w'
theorem HS.all{Γ:List (World->Prop)}(h:HS Γ):∀w w',w'.heap=w.heap->ik Γ w->ik Γ w':=by
 intro w w' he;induction Γ with
 |nil=>exact λ_=>trivial
 |cons F r ih=>exact λhh=>⟨h F mem_cons_self _ _ he hh.1,ih (λG hG=>h G (mem_cons_of_mem _ hG)) hh.2⟩
theorem Z7(hX:SX P main D X)(hfree:yx ops=true)(hin:Ff ops=true)(hK:∀s w,K s w->∀a,Fit n s a->X (G (b.at a k) cs) w)(w:World):∀(r:List (Nat×Oper)) (l:List Nat) (s:Sg) (Γ:List (World->Prop)) (a:Act) (m:Array Bool) (c:Nat),(∀p∈r,ops[p.1]? = some p.2/\l.contains p.1=false)->(r.map Prod.fst).Nodup->Db ops l m->Closed ops m->left ops l<=c->Fit n s a->HS Γ->ik Γ w->wV E n ops K w r l s Γ ->
 ∃Γ',(∀w',ik Γ' w'->ik Γ w')/\HS Γ'/\ik Γ' w/\AnyS P X b k cs ops (ik Γ') (nO ops) (q8 ops) c m a w:=by
 intro r;induction r with
 |nil =>
  intro l s Γ a m c _ _ hm hc hl hf hΓ hw h;exact⟨Γ,λ_ h=>h,hΓ,hw,Z5 (E:=E) hX hfree hin hK (ops.toList.length+1) l s Γ w a m c hm hc hl hf hΓ h⟩
 |cons p r ih =>
  intro l s Γ a m c hp hnd hm hc hl hf hΓ hw h;obtain⟨i,o⟩:=p;obtain⟨ho,hcon⟩:=hp (i,o) mem_cons_self;rw[map_cons,nodup_cons]at hnd;have hlt:i<ops.size:=(Array.getElem?_eq_some_iff.1 ho).1;have hp0:∀q∈r,ops[q.1]? = some q.2/\l.contains q.1=false:=λq hq=>hp q (mem_cons_of_mem _ hq)
  have hp1:∀q∈r,ops[q.1]? = some q.2/\(i::l).contains q.1=false:=λq hq=>⟨(hp0 q hq).1,by
   have h1:¬q.1=i:=λe=>hnd.1 (mem_map.2 ⟨q,hq,e⟩)
   have h2:=(hp0 q hq).2;rw[contains_cons,h2];simpa using h1⟩
  rw[UA]at h;cases hd:tK l o with
  |false=>rw[hd]at h;dsimp only[iB]at h;exact ih l s Γ a m c hp0 hnd.2 hm hc hl hf hΓ hw h
  |true =>
   rw[hd]at h;have Bf:i∈Region.ready .any ops m:=(Ih hm hin).2 ⟨o,ho,hcon,hd⟩;have hlc:=wW hlt hcon;obtain⟨c',rfl⟩:∃c',c=c'+1:=⟨c - 1,by omega⟩;have es0:∀q,kd o.op=q->q<2->nO ops i=false:=by
    intro q hq h2;unfold nO q8;rw[Array.getElem?_toList,ho];dsimp only;rw[hq,show Nat.blt q 2=true from Nat.ble_eq_true_of_le h2];rfl
   have Fp:∀{s':Sg} {x:Value},Fit n s' a->(∀S,qZ P ops S (nO ops i=false) o x a)->wV E n ops K w r (i::l) (dM n s' o.dst x) Γ->∃Γ',(∀w',ik Γ' w'->ik Γ w')/\HS Γ'/\ik Γ' w/\AnyS P X b k cs ops (ik Γ') (nO ops) (q8 ops) (c'+1) m a w:=λ{s' x} hf' hy hd=>by
    obtain⟨Γ',g1,g2,g3,g4⟩:=ih (i::l) _ Γ _ _ c' hp1 hnd.2 (hm.set hlt) (hc.set Bf) (by omega) (hf'.put o.dst x) hΓ hw hd;exact⟨Γ',g1,g2,g3,zf hX g2.all hfree ho true nofun c' m a w hc Bf (hy _) nofun g4⟩
   have Wn:∀{s':Sg} {x:Value} {F:World->Prop},kd o.op=1->Fit n s' a->Region.wanted o (yielded ops a.tmps)=true->F w->(∀w w',w'.heap=w.heap->F w->F w')->(∀w',F w'->aJ P (execOp a.eval o) w'/\(execOp a.eval o).run P w'=.ok (.value x) w')->wV E n ops K w r (i::l) (dM n s' o.dst x) (F::Γ)->∃Γ',(∀w',ik Γ' w'->ik Γ w')/\HS Γ'/\ik Γ' w/\AnyS P X b k cs ops (ik Γ') (nO ops) (q8 ops) (c'+1) m a w:=λ{s' x F} hk1 hf' hwt hFw Rb hrun hd=>by
    obtain⟨Γ',g1,g2,g3,g4⟩:=ih (i::l) _ (F::Γ) _ _ c' hp1 hnd.2 (hm.set hlt) (hc.set Bf) (by omega) (hf'.put o.dst x) (λG hG=>by
     rcases mem_cons.1 hG with rfl|hG
     ·exact Rb
     ·exact hΓ G hG) ⟨hFw,hw⟩ hd
    refine⟨Γ',λw' h=>(g1 w' h).2,g2,g3,zf hX g2.all hfree ho false (λ_ j hj hji=>?_) c' m a w hc Bf (.inl ⟨hwt,es0 1 hk1 (by decide),λw' hS=>hrun w' (g1 w' (hS rfl)).1⟩) (λ_=>g3) g4⟩;cases hr:reach ops ops.size i j with
    |true=>exact .inl rfl
    |false =>
     cases hq:q8 ops j with
     |true=>exact .inr (.inr rfl)
     |false =>
      refine .inr (.inl ?_);unfold nO;rw[hq];simp only[Bool.not_false,Bool.true_and];refine any_eq_true.2 ⟨i,mem_range.2 (by rw[Array.length_toList];exact hlt),?_⟩;have hb:ZV ops i=true:=by
       unfold ZV;rw[Array.getElem?_toList,ho];dsimp only;rw[hk1];rfl
      have hb2:Nat.beq i j=false:=by
       cases hh:Nat.beq i j with
       |false=>rfl
       |true=>exact absurd (Nat.eq_of_beq_eq_true hh).symm hji
      rw[hb,hb2,hr];rfl
   dsimp only[iB]at h;obtain⟨s',hf',⟨hwt,h⟩|⟨hwt,h⟩⟩:=Je hf h
   ·have hq:=O7 E.tab hf'.ev o
    have hkq:iL E.T (ev s') o.op≠.no->kd o.op=0:=by
     generalize o.op=op;intro hne;cases op<;>first|rfl|exact absurd rfl hne|skip
     rename_i c;obtain⟨ca,ar,at'⟩:=c;cases ca with
     |builtin bb=>cases bb<;>first|rfl|exact absurd rfl hne
     |value=>exact absurd rfl hne
     |invoke=>exact absurd rfl hne
    generalize ZT:iL E.T (ev s') o.op=qa at h hq hkq;cases qa with
    |v x=>exact Fp hf' (λS=>wX (es0 0 (hkq nofun) (by decide)) (_s:=s') hwt hq) h
    |c p x=>exact Fp hf' (λS=>wX (es0 0 (hkq nofun) (by decide)) (_s:=s') hwt (hq h.1)) h.2
    |d p x y =>
     rcases h with⟨hp,h⟩|h
     ·rw[hq.2 hp]at h;exact Fp hf' (λS=>wX (es0 0 (hkq nofun) (by decide)) (_s:=s') hwt hq.1) h
     ·exact Fp hf' (λS=>wX (es0 0 (hkq nofun) (by decide)) (_s:=s') hwt hq.1) h
    |no =>
     dsimp only at h;split at h
     ·rename_i t x hop
      obtain⟨v,F,g1,g2,g3,g4⟩:=Q9 hf'.ev hop h;exact Wn (by rw[hop];rfl) hf' hwt g2 g3 g4 g1
     ·rename_i t x y ok hop
      obtain⟨v,F,g1,g2,g3,g4⟩:=Z6 hf'.ev hop h;exact Wn (by rw[hop];rfl) hf' hwt g2 g3 g4 g1
     ·exact ih l s' Γ a m (c'+1) hp0 hnd.2 hm hc hl hf' hΓ hw h
   ·exact Fp hf' (λS=>.inr ⟨hwt,rfl⟩) h
theorem Ii:∀(os:List Oper) (i:Nat),((vR os i).map Prod.fst).Nodup/\∀j∈(vR os i).map Prod.fst,i<=j
 | [],i=>⟨nodup_nil,by simp[vR]⟩
 |o::os,i=>by
  obtain⟨h1,h2⟩:=Ii os (i+1);unfold vR;rw[map_cons];refine⟨nodup_cons.2 ⟨λh=>?_,h1⟩,λj hj=>?_⟩
  ·have:=h2 i h;omega
  ·rcases mem_cons.1 hj with rfl|hj
   ·exact Nat.le_refl _
   ·have:=h2 j hj;omega
theorem Z8(hX:SX P main D X)(hk:b.kind≠.early)(hm:P.follows .mixedOrders=true)(hK:∀s w,K s w->∀a,Fit n s a->X (G (b.at a k) cs) w){id:Nat}{s:Sg}{a:Act}{w:World}(hf:Fit n s a)(h:drW E n ops K s w):X (G (b.at a (.code (.region id ops true)::k)) cs) w:=by
 obtain⟨hb,h⟩:=h;rw[Bool.and_eq_true]at hb;obtain⟨hfree,hin⟩:=hb;have hmk:Db ops [] (Array.replicate ops.size false):=⟨by simp,λi hi=>by simp[hi]⟩;have hcl:Closed ops (Array.replicate ops.size false):=by
  intro j o ho hj;have hi:j<ops.size:=(Array.getElem?_eq_some_iff.1 ho).1;rw[hmk.get j hi]at hj;cases hj
 have hleft:left ops []<=ops.size:=by
  unfold left;exact Nat.le_trans (length_filter_le _ _) (by simp)
 obtain⟨Γ',_,g2,g3,g4⟩:=Z7 hX hfree hin hK w (vR ops.toList 0) [] s [] a _ ops.size (λp hp=>⟨Ck.1 hp,rfl⟩) (Ii _ _).1 hmk hcl hleft hf (λF hF=>by cases hF) trivial h;refine hX.step rfl λw₁ h1=>?_
 have hs:stepG P main (G (b.at a (.code (.region id ops true)::k)) cs) w₁=.go (G (b.at a (.inRegion ops (Region.schedule (P.follows .mixedOrders) ops (w₁.tape w₁.drawn (.order b.fn id)))::k)) cs) { w₁ with drawn:=w₁.drawn+1 } #[]:=by
  simp[G,stepG,stepG.exec,Frame.at,choose,Sem.run,Question.forced,Question.cut]
 rw[hs,goes_go];refine⟨hX.plain ⟨by simp,λ_ _ _=>Iff.rfl⟩,?_⟩;simp only[Region.schedule,hm,Bool.true_or,if_true];obtain⟨p,rfl⟩:=h1;exact Pd hX hk _ _ _ _ _ (AnyS.same hX (λw w' hs=>g2.all w w' hs.heap) _ _ _ _ _ g4 ⟨(p.1,p.2+1),rfl⟩)
end
end
