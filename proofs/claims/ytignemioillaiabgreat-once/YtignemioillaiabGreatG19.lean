/- Lemmas. -/
import Derived.Test.YtignemioillaiabGreatG18
namespace Go.Proofs.YtignemioillaiabGreat
set_option maxHeartbeats 8000000
set_option linter.unusedSectionVars false
set_option maxRecDepth 100000
open List
section
open Go Go.Conc
section
variable{P:Program}[kD P]{main:Bool}{D:World->World->Array Event->Prop}{X:Goroutine->World->Prop}{b:Frame}{k:List Item}{cs:List Frame}{ops:Array Oper}{E:ng P}{n:Nat}{K:Sg->World->Prop}
theorem ZC(hX:SX P main D X)(hk:b.kind≠.early)(hK:∀s w,K s w->∀a,Fit n s a->X (G (b.at a k) cs) w):∀(os:List Oper) (i:Nat) (s:Sg) (w:World) (a:Act),(∀j o,os[j]?=some o->ops[i+j]?=some o)->Fit n s a->LJ E n ops K os s w->X (G (b.at a (.inRegion ops (range' i os.length)::k)) cs) w:=by
 intro os;induction os with
 |nil=>exact λi s w a _ hf h=>aH.regionEnd hX.c (hK s w h a hf)
 |cons o os ih =>
  intro i s w a hos hf h;have ho:ops[i]?=some o:=hos 0 o rfl;have abI:∀j o',os[j]?=some o'->ops[i+1+j]?=some o':=λj o' hj=>by
   have:=hos (j+1) o' hj;rwa [show i+(j+1)=i+1+j by omega]at this
  rw[length_cons,range'_succ];rw[Tz]at h;obtain⟨s',hf',⟨hw,h⟩|⟨hw,h⟩⟩:=Ko hf h
  .refine iG.go hX ho hw hk (Tw (K':=λv w'=>X (G (b.at (a.put o.dst v) (.inRegion ops (range' (i+1) os.length)::k)) cs) w') hf'.ev h (λv w' hx=>ih (i+1) _ w' _ abI (hf'.put o.dst v) hx) (λv w w' hs hx=>hX.rely hs hx)) λ_ _ hx=>hx
  .exact aH.unw hX.c ho hw (ih (i+1) _ w _ abI (hf'.put o.dst undef) h)
structure Eh(ops:Array Oper)(l:List Nat)(m:Array Bool):Prop where
 size:m.size=ops.size
 get:∀i,i<ops.size->m.getD i true=l.contains i
theorem Eh.abJ{l:List Nat}{m:Array Bool}(h:Eh ops l m){i:Nat}(hi:i<ops.size):m.getD i false=l.contains i:=by
 rw[<-h.get i hi,Jcx,Jcx,Jbn (by rw[h.size];exact hi)];rfl
theorem Eh.set{l:List Nat}{m:Array Bool}(h:Eh ops l m){i:Nat}(hi:i<ops.size):Eh ops (i::l) (m.setIfInBounds i true):=by
 refine⟨by simp[h.size],λj hj=>?_⟩;by_cases hij:i=j
 .subst hij
  rw[Jcx,Array.getElem?_setIfInBounds_self_of_lt (by rw[h.size];exact hi)];simp
 .rw[getD_set_ne true hij,h.get j hj]
  have:¬j=i:=λe=>hij e.symm
  simp[this]
theorem OM:∀(os:List Oper) (i j:Nat) (o:Oper),(j,o)∈wP os i↔∃d,j=i+d/\os[d]?=some o
 | [],i,j,o=>by simp[wP]
 |x::os,i,j,o=>by
  unfold wP;rw[Jb3,OM os (i+1) j o];constructor
  .rintro(h|⟨d,h1,h2⟩)
   .cases h;exact⟨0,rfl,rfl⟩
   .exact⟨d+1,by omega,h2⟩
  .rintro⟨d,h1,h2⟩
   cases d with
   |zero=>cases h2;exact .inl (by rw[h1];rfl)
   |succ d=>exact .inr ⟨d,by omega,h2⟩
theorem Du{j:Nat}{o:Oper}:(j,o)∈wP ops.toList 0↔ops[j]?=some o:=by
 rw[OM];constructor
 .rintro⟨d,h1,h2⟩
  rw[Jdw]at h2;rw[h1,Jbh];exact h2
 .exact λh=>⟨j,by omega,by rw[Jdw];exact h⟩
theorem Wp{l:List Nat}{m:Array Bool}(h:Eh ops l m){o:Oper}(hb:uq l o=true)(hin:∀e∈o.after,Region.binds .any e=true->e.on<ops.size):∀e∈o.after,Region.binds .any e=true->m.getD e.on false=true:=by
 intro e he hbi;have:=all_eq_true.1 hb e (by simpa using he);simp only[hbi,Bool.not_true,Bool.false_or]at this;rw[h.abJ (hin e he hbi)];exact this
theorem Gz(h:Gy ops=true){i:Nat}{o:Oper}(ho:ops[i]?=some o):∀e∈o.after,e.on<ops.size:=by
 intro e he;have h1:=all_eq_true.1 h o (by simpa using Array.mem_of_getElem? ho);have h2:=all_eq_true.1 h1 e (by simpa using he);have:=Jc4 h2;omega
theorem Ju{l:List Nat}{m:Array Bool}(h:Eh ops l m)(hin:Gy ops=true){i:Nat}:i∈Region.ready .any ops m↔∃o,ops[i]?=some o/\l.contains i=false/\uq l o=true:=by
 rw[mem_ready];constructor
 .rintro⟨h1,o,ho,h2⟩
  have hi:i<ops.size:=(Jbd.1 ho).1;refine⟨o,ho,by rw[<-h.get i hi];exact h1,?_⟩;refine all_eq_true.2 λe he=>?_
  have he':e∈o.after:=by simpa using he
  cases hb:Region.binds .any e with
  |false=>rfl
  |true =>
   have:=h2 e he' hb;rw[h.abJ (Gz hin ho e he')]at this;simpa using this
 .rintro⟨o,ho,h1,h2⟩
  have hi:i<ops.size:=(Jbd.1 ho).1;exact⟨by rw[h.get i hi];exact h1,o,ho,Wp h h2 λe he _=>Gz hin ho e he⟩
def left(ops:Array Oper)(l:List Nat):Nat:=((List.range ops.size).filter λi=>!l.contains i).length
theorem xK{l:List Nat}{i:Nat}(hi:i<ops.size)(hl:l.contains i=false):left ops (i::l)+1=left ops l:=by
 unfold left;have key:∀(r:List Nat),r.Nodup->i∈r->(r.filter λj=>!(i::l).contains j).length+1=(r.filter λj=>!l.contains j).length:=by
  intro r;induction r with
  |nil=>intro _ h;cases h
  |cons x r ih =>
   intro hn hm;rw[Jdk]at hn;rcases Jb3.1 hm with rfl|hm
   .rw[Jdm (by simp),Jdn (by simpa using hl),length_cons]
    congr 2
    refine filter_congr λy hy=>?_
    have:¬y=i:=λe=>hn.1 (e▸hy)
    simp[this]
   .have hx:¬x=i:=λe=>hn.1 (e▸hm)
    have e1:(!(i::l).contains x) = !l.contains x:=by simp[hx]
    cases hc : !l.contains x with
    |true =>
     rw[Jdn (by rw[e1];exact hc),Jdn (p:=λj=>!l.contains j) hc,length_cons,length_cons,ih hn.2 hm]
    |false =>
     rw[Jdm (by rw[e1,hc];decide),Jdm (p:=λj=>!l.contains j) (by rw[hc];decide),ih hn.2 hm]
 exact key _ nodup_range (Jc3.2 hi)
theorem abK{w:World}{t:Nat}{v:Option Value}{K:Value->World->Prop}(h:ze E w K t v):ze E w (λv w'=>w'=w/\K v w') t v:=by
 unfold ze at h |-;split at h
 .dsimp only
  split at h
  .rename_i y hy
   obtain⟨xs,ty,hW,h⟩:=h;refine⟨xs,ty,hW,?_⟩;cases hs:kQ y with
   |true =>
    rw[hs]at h;dsimp only[iH]at h |-;cases h0:Nat.beq (bD E.T t) 0 with
    |true=>rw[h0]at h;exact(show False from h).elim
    |false=>rw[h0]at h;dsimp only at h;obtain⟨c,h1,h2,h3⟩:=h;exact⟨c,h1,h2,rfl,h3⟩
   |false=>rw[hs]at h;dsimp only[iH]at h;obtain⟨v,h1,h3⟩:=h;exact⟨v,h1,rfl,h3⟩
  .exact h.elim
 .exact h.elim
theorem abL{w:World}{t:Nat}{ok:Bool}{u v:Option Value}{K:Value->World->Prop}(h:Jt E w K t ok u v):Jt E w (λv w'=>w'=w/\K v w') t ok u v:=by
 unfold Jt at h |-;split at h
 .dsimp only
  split at h
  .obtain⟨f,h1,h2⟩:=h
   exact⟨f,h1,rfl,h2⟩
  .exact h.elim
 .exact h.elim
theorem LK{F:Nat->Oper->Prop}:∀{R:List (Nat×Oper)} {i:Nat} {o:Oper},QT F R->(i,o)∈R->F i o
 | [],_,_,_,h=>by cases h
 | [(j,x)],i,o,h,hm=>by
  rcases Jb3.1 hm with e|e
  .cases e;exact h
  .cases e
 |(j,x)::y::r,i,o,h,hm=>by
  rcases Jb3.1 hm with e|e
  .cases e;exact h.1
  .exact LK (R:=y::r) h.2 e
theorem abM{o:Oper}(h:Nat.blt (kd o.op) 2=true):kd o.op=0\/kd o.op=1:=by
 have:=Jc4 h;omega
theorem xL{S:World->Prop}{q0:Prop}(h0:q0){_s:Sg}{a:Act}{o:Oper}{x:Value}(hw:Region.wanted o (yielded ops a.tmps)=true)(q:aV P (execOp a.eval o)=some (.value x)):rR P ops S q0 o x a :=
 .inl ⟨hw,h0,λw _=>⟨aK.quiet q w,ja q w⟩⟩
theorem abN(hX:SX P main D X)(hfree:zf ops=true)(hin:Gy ops=true)(hK:∀s w,K s w->∀a,Fit n s a->X (G (b.at a k) cs) w):∀(f:Nat) (l:List Nat) (s:Sg) (Γ:List (World->Prop)) (w:World) (a:Act) (m:Array Bool) (c:Nat),Eh ops l m->Closed ops m->left ops l<=c->Fit n s a->(∀F∈Γ,∀w w',w'.heap=w.heap->F w->F w')->uL E n ops K f l s Γ w->AnyS P X b k cs ops (iC Γ) (oF ops) (rT ops) c m a w:=by
 intro f;induction f with
 |zero=>intro l s Γ w a m c _ _ _ _ _ h;exact h.elim
 |succ f ih =>
  intro l s Γ w a m c hm hc hl hf hΓ h;have OI:∀w w',w'.heap=w.heap->iC Γ w->iC Γ w':=by
   intro w w' he;clear h;induction Γ with
   |nil=>exact λ_=>trivial
   |cons F r ihr=>exact λhh=>⟨hΓ F Jb4 _ _ he hh.1,ihr (λG hG=>hΓ G (Jb2 _ hG)) hh.2⟩
  rw[Wn]at h;have hR:∀i,i∈Region.ready .any ops m↔∃o,(i,o)∈(wP ops.toList 0).filter λp=>!l.contains p.1&&uq l p.2:=by
   intro i;rw[Ju hm hin];constructor
   .rintro⟨o,h1,h2,h3⟩;exact⟨o,mem_filter.2 ⟨Du.2 h1,by show(!l.contains i&&uq l o)=true;rw[h2,h3];rfl⟩⟩
   .rintro⟨o,h1⟩
    obtain⟨h1,h2⟩:=mem_filter.1 h1;simp only[Jdy,Jf8]at h2;exact⟨o,Du.1 h1,h2.1,h2.2⟩
  generalize hRR:((wP ops.toList 0).filter λp=>!l.contains p.1&&uq l p.2)=R at h hR;have hmem:∀i o,(i,o)∈R->ops[i]?=some o/\i<ops.size/\l.contains i=false:=by
   intro i o GA;rw[<-hRR]at GA;obtain⟨h1,h2⟩:=mem_filter.1 GA;simp only[Jdy,Jf8]at h2;have h3:=Du.1 h1;exact⟨h3,(Jbd.1 h3).1,h2.1⟩
  cases R with
  |nil =>
   have hnil:Region.ready .any ops m=[]:=by
    cases hrr:Region.ready .any ops m with
    |nil=>rfl
    |cons x xs =>
     obtain⟨o,ho⟩:=(hR x).1 (by rw[hrr];exact Jb4);cases ho
   have hx:=hK s w h a hf;cases c with
   |zero=>exact⟨hnil,hx⟩
   |succ c=>exact⟨λ_=>hx,λi hi=>by rw[hnil]at hi;cases hi⟩
  |cons p0 R' =>
   have hcp:0<c:=by
    obtain⟨h1,h2,h3⟩:=hmem p0.1 p0.2 Jb4;have:=xK h2 h3;omega
   obtain⟨c,rfl⟩:∃c',c=c'+1:=⟨c-1,by omega⟩;dsimp only at h;split at h
   .rename_i i o hfind
    have GA:=Jfd hfind;obtain⟨ho,hlt,hcon⟩:=hmem i o GA;have Cf:i∈Region.ready .any ops m:=(hR i).2 ⟨o,GA⟩;have hk0:kd o.op=0:=by have:=find?_some hfind;exact Jdq this
    have OJ:oF ops i=false:=by
     unfold oF rT;rw[Jdw,ho];dsimp only;rw[hk0];rfl
    have hlc:=xK hlt hcon;have take:∀{s':Sg} {x:Value},Fit n s' a->rR P ops (λw=>true=false->iC Γ w) (oF ops i=false) o x a->uL E n ops K f (i::l) (dK n s' o.dst x) Γ w->AnyS P X b k cs ops (iC Γ) (oF ops) (rT ops) (c+1) m a w:=λ{s' x} hf' hy hd =>
     zY hX OI hfree ho true nofun c m a w hc Cf hy nofun (ih (i::l) _ Γ w _ _ c (hm.set hlt) (hc.set Cf) (by omega) (hf'.put o.dst x) hΓ hd)
    obtain⟨s',hf',⟨hw,h⟩|⟨hw,h⟩⟩:=Ko hf h
    .have hq:=QL E.tab hf'.ev o
     generalize hqa:iT E.T (ev s') o.op=qa at h hq;cases qa with
     |v x=>exact take hf' (xL OJ (_s:=s') hw hq) h
     |c p x=>exact take hf' (xL OJ (_s:=s') hw (hq h.1)) h.2
     |d p x y =>
      rcases h with⟨hp,h⟩|h
      .rw[hq.2 hp]at h;exact take hf' (xL OJ (_s:=s') hw hq.1) h
      .exact take hf' (xL OJ (_s:=s') hw hq.1) h
     |no=>exact h.elim
    .exact take hf' (.inr ⟨hw,rfl⟩) h
   .rename_i hnf
    refine⟨λe=>?_,λi hi o ho=>?_⟩
    .have:=(hR p0.1).2 ⟨p0.2,Jb4⟩
     rw[e]at this;cases this
    .obtain⟨o',GA⟩:=(hR i).1 hi
     obtain⟨ho',hlt,hcon⟩:=hmem i o' GA;rw[ho]at ho';cases ho'
     have h1:=LK h GA;have hlc:=xK hlt hcon;have next:∀{s':Sg} {v:Value} {w':World},Fit n s' a->uL E n ops K f (i::l) (dK n s' o.dst v) Γ w'->AnyS P X b k cs ops (iC Γ) (oF ops) (rT ops) c (m.setIfInBounds i true) (a.put o.dst v) w':=λ{s' v w'} hf' hd =>
      ih (i::l) _ Γ w' _ _ c (hm.set hlt) (hc.set hi) (by omega) (hf'.put o.dst v) hΓ hd
     have hes:∀{q:Nat},kd o.op=q->q<2->oF ops i=false:=by
      intro q hq h2;unfold oF rT;rw[Jdw,ho];dsimp only;rw[hq,show Nat.blt q 2=true from Jca h2];rfl
     obtain⟨s',hf',⟨hw,h1⟩|⟨hw,h1⟩⟩:=Ko hf h1
     .rw[Jb6 hw]
      have Wq:∀(v:Value) (w1 w2:World),cO w1 w2->(((oF ops i=true->iC Γ w1)/\(rT ops i=true->w1.heap=w.heap))/\AnyS P X b k cs ops (iC Γ) (oF ops) (rT ops) c (m.setIfInBounds i true) (a.put o.dst v) w1)->(((oF ops i=true->iC Γ w2)/\(rT ops i=true->w2.heap=w.heap))/\AnyS P X b k cs ops (iC Γ) (oF ops) (rT ops) c (m.setIfInBounds i true) (a.put o.dst v) w2):=λv w1 w2 hs hx =>
       ⟨⟨λe=>OI _ _ hs.heap (hx.1.1 e),λe=>hs.heap.trans (hx.1.2 e)⟩,AnyS.same hX (λw w' hs=>OI w w' hs.heap) _ _ _ _ _ hx.2 hs⟩
      split at h1
      .rename_i t x hop
       have e1:=hes (q:=1) (by rw[hop];rfl) (by decide);exact Tt hf'.ev hop (abK h1) (λv w' hx=>⟨⟨λe=>(by rw[e1]at e;cases e),λ_=>by rw[hx.1]⟩,next hf' hx.2⟩) Wq
      .rename_i t x y ok hop
       have e1:=hes (q:=1) (by rw[hop];rfl) (by decide);exact LF hf'.ev hop (abL h1) (λv w' hx=>⟨⟨λe=>(by rw[e1]at e;cases e),λ_=>by rw[hx.1]⟩,next hf' hx.2⟩) Wq
      .rename_i hn1 hn2
       have GD:rT ops i=false:=by
        cases hb:rT ops i with
        |false=>rfl
        |true =>
         exfalso
         unfold rT at hb;rw[Jdw,ho]at hb;rcases abM hb with h0|h0
         .have:=find?_eq_none.1 hnf (i,o) GA
          rw[h0]at this;exact absurd rfl this
         .revert h0
          generalize o.op=op at hn1 hn2;cases op<;>intro h0<;>first|(exact hn1 _ _ rfl)|(exact hn2 _ _ _ _ rfl)|(cases h0;done)|skip
          rename_i c;obtain⟨ca,ar,at'⟩:=c;cases ca with
          |builtin bb=>cases bb<;>cases h0
          |value=>cases h0
          |invoke=>cases h0
       have hno:iT E.T (ev s') o.op=.no:=by
        unfold rT at GD;rw[Jdw,ho]at GD;dsimp only at GD;revert GD
        generalize o.op=op;intro GD;cases op<;>first|(cases GD;done)|rfl|skip
        rename_i c;obtain⟨ca,ar,at'⟩:=c;cases ca with
        |builtin bb=>cases bb<;>first|(cases GD;done)|rfl
        |value=>rfl
        |invoke=>rfl
       have h2:OH E s' w (λv w'=>iH (oF ops i) (iC Γ w'/\uL E n ops K f (i::l) (dK n s' o.dst v) Γ w') (uL E n ops K f (i::l) (dK n s' o.dst v) Γ w')) o:=by
        unfold OH;rw[hno];exact h1
       refine Tw hf'.ev h2 (λv w' hx=>?_) Wq;cases he:oF ops i with
       |true=>rw[he]at hx;dsimp only[iH]at hx;exact⟨⟨λ_=>hx.1,λe=>(by rw[GD]at e;cases e)⟩,next hf' hx.2⟩
       |false=>rw[he]at hx;dsimp only[iH]at hx;exact⟨⟨nofun,λe=>(by rw[GD]at e;cases e)⟩,next hf' hx⟩
     .rw[Jb5 (by rw[hw];decide)]
      exact next hf' h1
end
section
variable{P:Program}[kD P]{main:Bool}{D:World->World->Array Event->Prop}{X:Goroutine->World->Prop}{b:Frame}{k:List Item}{cs:List Frame}{ops:Array Oper}{E:ng P}{n:Nat}{K:Sg->World->Prop}
theorem TA{s:Sg}{a:Act}{w:World}{o:Oper}{t:Nat}{x:Operand}{K:Value->(World->Prop)->Prop}(hr:∀x v,ev s x=some v->a.eval x=v)(hop:o.op=.load t x)(h:OL E w t K (ev s x)):∃v F,K v F/\F w/\(∀w w',w'.heap=w.heap->F w->F w')/\∀w',F w'->aK P (execOp a.eval o) w'/\(execOp a.eval o).run P w'=.ok (.value v) w':=by
 unfold OL at h;split at h
 .rename_i B off hx
  split at h
  .rename_i y hy
   obtain⟨i,d,hd⟩:=E.tab.ok.is hy;obtain⟨xs,ty,hW,h⟩:=h;have ex:=hr _ _ hx;cases hs:kQ y with
   |true =>
    rw[hs]at h;dsimp only[iH]at h;have h0:¬bD E.T t=0:=λe=>by rw[e]at h;exact h
    have h0':Nat.beq (bD E.T t) 0=false:=by cases hb:Nat.beq (bD E.T t) 0 with|true=>exact absurd (Jdq hb) h0|false=>rfl
    rw[h0']at h;dsimp only at h;obtain⟨c,hc,hl,h⟩:=h;refine⟨_,_,h,hW,λw w' he hF=>by rw[he];exact hF,λw' hF=>⟨aK.plain (vV hop) w',Gu t hop ex hF hd.under ?_ (n:=c.length) ?_ ?_ c ?_⟩⟩
    .have:=hd.shape;rw[hs]at this;cases d<;>exact this
    .rw[hd.info,Jbb,hd.size,hl]
    .refine Jca ?_
     have:(aG xs.toList off (bD E.T t)).length=bD E.T t:=by rw[hc,hl]
     unfold aG at this;rw[Jd6,Jf7,Array.length_toList]at this;rw[hl];omega
    .rw[hl];exact hc
   |false =>
    rw[hs]at h;dsimp only[iH]at h;obtain⟨v,hv,h⟩:=h;rw[Jdw]at hv;refine⟨_,_,h,hW,λw w' he hF=>by rw[he];exact hF,λw' hF=>⟨aK.plain (vV hop) w',Gt t hop ex hF hd.under ?_ hv⟩⟩;have:=hd.shape;rw[hs]at this;cases d<;>exact this
  .exact h.elim
 .exact h.elim
theorem abO{s:Sg}{a:Act}{w:World}{o:Oper}{t:Nat}{x y:Operand}{ok:Bool}{K:Value->(World->Prop)->Prop}(hr:∀x v,ev s x=some v->a.eval x=v)(hop:o.op=.lookup t x y ok)(h:Ye E w t ok K (ev s x) (ev s y)):∃v F,K v F/\F w/\(∀w w',w'.heap=w.heap->F w->F w')/\∀w',F w'->aK P (execOp a.eval o) w'/\(execOp a.eval o).run P w'=.ok (.value v) w':=by
 unfold Ye at h;split at h
 .rename_i m k hx hy
  split at h
  .rename_i key e ht
   obtain⟨h1,h2,h3⟩:=wy ht;obtain⟨f,hm,h⟩:=h;refine⟨_,_,h,hm,λw w' he hF=>fZ.keep hF (by rw[he]),λw' hF=>⟨aK.plain (ni (by rw[hop];rfl) (by rw[hop];rfl)) w',?_⟩⟩;have e1:execOp a.eval o=(do pure (Next.value (<-Instr.lookup t (a.eval x) (a.eval y) ok))):=by unfold execOp;rw[hop]
   rw[e1,hr _ _ hx,hr _ _ hy,Sem.run_bind,Ee h1 h2 h3 hF ok];cases ok<;>rfl
  .exact h.elim
 .exact h.elim
def HS(Γ:List (World->Prop)):Prop:=∀F∈Γ,∀w w',w'.heap=w.heap->F w->F w'
theorem HS.all{Γ:List (World->Prop)}(h:HS Γ):∀w w',w'.heap=w.heap->iC Γ w->iC Γ w':=by
 intro w w' he;induction Γ with
 |nil=>exact λ_=>trivial
 |cons F r ih=>exact λhh=>⟨h F Jb4 _ _ he hh.1,ih (λG hG=>h G (Jb2 _ hG)) hh.2⟩
theorem abP(hX:SX P main D X)(hfree:zf ops=true)(hin:Gy ops=true)(hK:∀s w,K s w->∀a,Fit n s a->X (G (b.at a k) cs) w)(w:World):∀(r:List (Nat×Oper)) (l:List Nat) (s:Sg) (Γ:List (World->Prop)) (a:Act) (m:Array Bool) (c:Nat),(∀p∈r,ops[p.1]?=some p.2/\l.contains p.1=false)->(r.map Prod.fst).Nodup->Eh ops l m->Closed ops m->left ops l<=c->Fit n s a->HS Γ->iC Γ w->xJ E n ops K w r l s Γ ->
 ∃Γ',(∀w',iC Γ' w'->iC Γ w')/\HS Γ'/\iC Γ' w/\AnyS P X b k cs ops (iC Γ') (oF ops) (rT ops) c m a w:=by
 intro r;induction r with
 |nil =>
  intro l s Γ a m c _ _ hm hc hl hf hΓ hw h;exact⟨Γ,λ_ h=>h,hΓ,hw,abN (E:=E) hX hfree hin hK (ops.toList.length+1) l s Γ w a m c hm hc hl hf hΓ h⟩
 |cons p r ih =>
  intro l s Γ a m c hp hnd hm hc hl hf hΓ hw h;obtain⟨i,o⟩:=p;obtain⟨ho,hcon⟩:=hp (i,o) Jb4;rw[Jcj,Jdk]at hnd;have hlt:i<ops.size:=(Jbd.1 ho).1;have hp0:∀q∈r,ops[q.1]?=some q.2/\l.contains q.1=false:=λq hq=>hp q (Jb2 _ hq)
  have hp1:∀q∈r,ops[q.1]?=some q.2/\(i::l).contains q.1=false:=λq hq=>⟨(hp0 q hq).1,by
   have h1:¬q.1=i:=λe=>hnd.1 (Jdb.2 ⟨q,hq,e⟩)
   have h2:=(hp0 q hq).2;rw[contains_cons,h2];simpa using h1⟩
  rw[Wo]at h;cases hd:uq l o with
  |false=>rw[hd]at h;dsimp only[iH]at h;exact ih l s Γ a m c hp0 hnd.2 hm hc hl hf hΓ hw h
  |true =>
   rw[hd]at h;have Cf:i∈Region.ready .any ops m:=(Ju hm hin).2 ⟨o,ho,hcon,hd⟩;have hlc:=xK hlt hcon;obtain⟨c',rfl⟩:∃c',c=c'+1:=⟨c-1,by omega⟩;have es0:∀q,kd o.op=q->q<2->oF ops i=false:=by
    intro q hq h2;unfold oF rT;rw[Jdw,ho];dsimp only;rw[hq,show Nat.blt q 2=true from Jca h2];rfl
   have GH:∀{s':Sg} {x:Value},Fit n s' a->(∀S,rR P ops S (oF ops i=false) o x a)->xJ E n ops K w r (i::l) (dK n s' o.dst x) Γ->∃Γ',(∀w',iC Γ' w'->iC Γ w')/\HS Γ'/\iC Γ' w/\AnyS P X b k cs ops (iC Γ') (oF ops) (rT ops) (c'+1) m a w:=λ{s' x} hf' hy hd=>by
    obtain⟨Γ',g1,g2,g3,g4⟩:=ih (i::l) _ Γ _ _ c' hp1 hnd.2 (hm.set hlt) (hc.set Cf) (by omega) (hf'.put o.dst x) hΓ hw hd;exact⟨Γ',g1,g2,g3,zY hX g2.all hfree ho true nofun c' m a w hc Cf (hy _) nofun g4⟩
   have Yf:∀{s':Sg} {x:Value} {F:World->Prop},kd o.op=1->Fit n s' a->Region.wanted o (yielded ops a.tmps)=true->F w->(∀w w',w'.heap=w.heap->F w->F w')->(∀w',F w'->aK P (execOp a.eval o) w'/\(execOp a.eval o).run P w'=.ok (.value x) w')->xJ E n ops K w r (i::l) (dK n s' o.dst x) (F::Γ)->∃Γ',(∀w',iC Γ' w'->iC Γ w')/\HS Γ'/\iC Γ' w/\AnyS P X b k cs ops (iC Γ') (oF ops) (rT ops) (c'+1) m a w:=λ{s' x F} hk1 hf' hwt hFw TB hrun hd=>by
    obtain⟨Γ',g1,g2,g3,g4⟩:=ih (i::l) _ (F::Γ) _ _ c' hp1 hnd.2 (hm.set hlt) (hc.set Cf) (by omega) (hf'.put o.dst x) (λG hG=>by
     rcases Jb3.1 hG with rfl|hG
     .exact TB
     .exact hΓ G hG) ⟨hFw,hw⟩ hd
    refine⟨Γ',λw' h=>(g1 w' h).2,g2,g3,zY hX g2.all hfree ho false (λ_ j hj hji=>?_) c' m a w hc Cf (.inl ⟨hwt,es0 1 hk1 (by decide),λw' hS=>hrun w' (g1 w' (hS rfl)).1⟩) (λ_=>g3) g4⟩;cases hr:reach ops ops.size i j with
    |true=>exact .inl rfl
    |false =>
     cases hq:rT ops j with
     |true=>exact .inr (.inr rfl)
     |false =>
      refine .inr (.inl ?_);unfold oF;rw[hq];simp only[Bool.not_false,Jdz];refine any_eq_true.2 ⟨i,Jc3.2 (by rw[Array.length_toList];exact hlt),?_⟩;have hb:rdB ops i=true:=by
       unfold rdB;rw[Jdw,ho];dsimp only;rw[hk1];rfl
      have hb2:Nat.beq i j=false:=by
       cases hh:Nat.beq i j with
       |false=>rfl
       |true=>exact absurd (Jdq hh).symm hji
      rw[hb,hb2,hr];rfl
   dsimp only[iH]at h;obtain⟨s',hf',⟨hwt,h⟩|⟨hwt,h⟩⟩:=Ko hf h
   .have hq:=QL E.tab hf'.ev o
    have hkq:iT E.T (ev s') o.op≠.no->kd o.op=0:=by
     generalize o.op=op;intro hne;cases op<;>first|rfl|exact absurd rfl hne|skip
     rename_i c;obtain⟨ca,ar,at'⟩:=c;cases ca with
     |builtin bb=>cases bb<;>first|rfl|exact absurd rfl hne
     |value=>exact absurd rfl hne
     |invoke=>exact absurd rfl hne
    generalize hqa:iT E.T (ev s') o.op=qa at h hq hkq;cases qa with
    |v x=>exact GH hf' (λS=>xL (es0 0 (hkq nofun) (by decide)) (_s:=s') hwt hq) h
    |c p x=>exact GH hf' (λS=>xL (es0 0 (hkq nofun) (by decide)) (_s:=s') hwt (hq h.1)) h.2
    |d p x y =>
     rcases h with⟨hp,h⟩|h
     .rw[hq.2 hp]at h;exact GH hf' (λS=>xL (es0 0 (hkq nofun) (by decide)) (_s:=s') hwt hq.1) h
     .exact GH hf' (λS=>xL (es0 0 (hkq nofun) (by decide)) (_s:=s') hwt hq.1) h
    |no =>
     dsimp only at h;split at h
     .rename_i t x hop
      obtain⟨v,F,g1,g2,g3,g4⟩:=TA hf'.ev hop h;exact Yf (by rw[hop];rfl) hf' hwt g2 g3 g4 g1
     .rename_i t x y ok hop
      obtain⟨v,F,g1,g2,g3,g4⟩:=abO hf'.ev hop h;exact Yf (by rw[hop];rfl) hf' hwt g2 g3 g4 g1
     .exact ih l s' Γ a m (c'+1) hp0 hnd.2 hm hc hl hf' hΓ hw h
   .exact GH hf' (λS=>.inr ⟨hwt,rfl⟩) h
theorem Jv:∀(os:List Oper) (i:Nat),((wP os i).map Prod.fst).Nodup/\∀j∈(wP os i).map Prod.fst,i<=j
 | [],i=>⟨nodup_nil,by simp[wP]⟩
 |o::os,i=>by
  obtain⟨h1,h2⟩:=Jv os (i+1);unfold wP;rw[Jcj];refine⟨Jdk.2 ⟨λh=>?_,h1⟩,λj hj=>?_⟩
  .have:=h2 i h;omega
  .rcases Jb3.1 hj with rfl|hj
   .exact Jb0 _
   .have:=h2 j hj;omega
theorem abQ(hX:SX P main D X)(hk:b.kind≠.early)(hm:P.follows .mixedOrders=true)(hK:∀s w,K s w->∀a,Fit n s a->X (G (b.at a k) cs) w){id:Nat}{s:Sg}{a:Act}{w:World}(hf:Fit n s a)(h:drW E n ops K s w):X (G (b.at a (.code (.region id ops true)::k)) cs) w:=by
 obtain⟨hb,h⟩:=h;rw[Jdy]at hb;obtain⟨hfree,hin⟩:=hb;have hmk:Eh ops [] (Array.replicate ops.size false):=⟨by simp,λi hi=>by simp[hi]⟩;have hcl:Closed ops (Array.replicate ops.size false):=by
  intro j o ho hj;have hi:j<ops.size:=(Jbd.1 ho).1;rw[hmk.get j hi]at hj;cases hj
 have hleft:left ops []<=ops.size:=by
  unfold left;exact Jb1 (Jff _ _) (by simp)
 obtain⟨Γ',_,g2,g3,g4⟩:=abP hX hfree hin hK w (wP ops.toList 0) [] s [] a _ ops.size (λp hp=>⟨Du.1 hp,rfl⟩) (Jv _ _).1 hmk hcl hleft hf (λF hF=>by cases hF) trivial h;refine hX.step rfl λw₁ h1=>?_
 have hs:stepG P main (G (b.at a (.code (.region id ops true)::k)) cs) w₁=.go (G (b.at a (.inRegion ops (Region.schedule (P.follows .mixedOrders) ops (w₁.tape w₁.drawn (.order b.fn id)))::k)) cs) {w₁ with drawn:=w₁.drawn+1} #[]:=by
  simp[G,stepG,stepG.exec,Frame.at,choose,Sem.run,Question.forced,Question.cut]
 rw[hs,goes_go];refine⟨hX.plain ⟨by simp,λ_ _ _=>Iff.rfl⟩,?_⟩;simp only[Region.schedule,hm,Bool.true_or,Jb8];obtain⟨p,rfl⟩:=h1;exact QQ hX hk _ _ _ _ _ (AnyS.same hX (λw w' hs=>g2.all w w' hs.heap) _ _ _ _ _ g4 ⟨(p.1,p.2+1),rfl⟩)
end
end
