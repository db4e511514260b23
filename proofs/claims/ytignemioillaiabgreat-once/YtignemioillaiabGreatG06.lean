/- Lemmas. -/
import Derived.Test.YtignemioillaiabGreatG05
import Derived.Conc.CrowdSel
namespace Go.Proofs.YtignemioillaiabGreat
set_option maxHeartbeats 8000000
set_option maxRecDepth 100000
open List
section
open Go Go.Conc
def BL(F:Nat->Prop):Loc->Prop
 |.cell a=>F a.block
 |.obj r=>F r
 |_=>False
theorem KS{F F':Nat->Prop}(h:∀b,F b->F' b){l:Loc}(hl:BL F l):BL F' l:=by
 cases l<;>first|exact h _ hl|exact hl
theorem BM{F F':Nat->Prop}(h:∀b,F b->¬F' b){l:Loc}(hl:BL F l)(hl':BL F' l):False:=by
 cases l<;>first|exact h _ hl hl' | exact hl
def BN(F:Nat->Prop)(e:Event):Prop:=nK e/\∀x,(MemAct.ofEvent e).touch?=some x->x.loc.isMemory=true->BL F x.loc
structure dP(W:Nat)(F0 FW:Nat->Prop)(t:Trace):Prop where
 clean:∀said,¬Race said t
 known:∀i a,touchAt t i=some a->a.loc.isMemory=true->(Knows t 0 i/\Knows t W i)\/(Knows t 0 i/\BL F0 a.loc)\/(Knows t W i/\BL FW a.loc)
 nL:Deaf t 0=0
 wL:Deaf t W=0
theorem zM{t:Trace}{g:Nat}{fn:FuncId}{pos:String}{es:Array Event}(h:∀e∈es,nK e):Deaf (t++MemOp.ofEvents g fn pos es) g=Deaf t g:=by
 rw[Deaf_own];exact deafBehind_still (λe he=>h e he) _
theorem pY{g:Nat}{fn:FuncId}{pos:String}{es:Array Event}{op:MemOp}(h:op∈MemOp.ofEvents g fn pos es):∃e∈es,op.act=.ofEvent e/\op.g=g:=by
 rw[ofEvents_eq]at h;obtain⟨e,he,rfl⟩:=Array.mem_map.1 h;exact⟨e,he,rfl,rfl⟩
section
variable{W:Nat}{F0 FW xB Bb:Nat->Prop}{t:Trace}
theorem dP.grow(h:dP W F0 FW t)(h0:∀b,F0 b->xB b)(hW:∀b,FW b->Bb b):dP W xB Bb t :=
 ⟨h.clean,λi a ha hm=>(h.known i a ha hm).imp id (Or.imp (λx=>⟨x.1,KS h0 x.2⟩) λx=>⟨x.1,KS hW x.2⟩),h.nL,h.wL⟩
theorem dP.main(h:dP W F0 FW t)(hW:W≠0)(hd:∀b,F0 b->¬FW b){fn:FuncId}{pos:String}{es:Array Event}(hes:∀e∈es,BN F0 e):dP W F0 FW (t++MemOp.ofEvents 0 fn pos es):=by
 refine⟨λsaid=>noRace_append (h.clean said) ofEvents_g λi a ha op hop b hb hc=>?_,λi a ha hm=>?_,(zM λe he=>(hes e he).1).trans h.nL,(Deaf_other t (Ne.symm hW) _ ofEvents_g).trans h.wL⟩
 .obtain⟨e,he,ea,_⟩:=pY hop
  have hm:a.loc.isMemory=true:=hc.2.1;have hin:BL F0 b.loc:=(hes e he).2 b (by rw[<-ea];exact hb) (by rw[<-hc.1];exact hm);rcases h.known i a ha hm with x|x|x
  .exact x.1
  .exact x.1
  .rw[hc.1]at x
   exact(BM hd hin x.2).elim
 .obtain⟨x,hx,hxa⟩:=touch_of ha
  rcases getElem?_append_cases hx with⟨_,hx'⟩|⟨_,hxu⟩
  .rcases h.known i a (by rw[touchAt_of hx'];exact hxa) hm with y|y|y
   .exact .inl ⟨y.1.app _,y.2.app _⟩
   .exact .inr (.inl ⟨y.1.app _,y.2⟩)
   .exact .inr (.inr ⟨y.1.app _,y.2⟩)
  .obtain⟨e,he,ea,eg⟩:=pY hxu
   have:=knows_own hx;rw[eg]at this;exact .inr (.inl ⟨this,(hes e he).2 a (by rw[<-ea];exact hxa) hm⟩)
theorem dP.work(h:dP W F0 FW t)(hW:W≠0)(hd:∀b,F0 b->¬FW b){fn:FuncId}{pos:String}{es:Array Event}(hes:∀e∈es,BN FW e):dP W F0 FW (t++MemOp.ofEvents W fn pos es):=by
 refine⟨λsaid=>noRace_append (h.clean said) ofEvents_g λi a ha op hop b hb hc=>?_,λi a ha hm=>?_,(Deaf_other t hW _ ofEvents_g).trans h.nL,(zM λe he=>(hes e he).1).trans h.wL⟩
 .obtain⟨e,he,ea,_⟩:=pY hop
  have hm:a.loc.isMemory=true:=hc.2.1;have hin:BL FW b.loc:=(hes e he).2 b (by rw[<-ea];exact hb) (by rw[<-hc.1];exact hm);rcases h.known i a ha hm with x|x|x
  .exact x.2
  .rw[hc.1]at x
   exact(BM hd x.2 hin).elim
  .exact x.1
 .obtain⟨x,hx,hxa⟩:=touch_of ha
  rcases getElem?_append_cases hx with⟨_,hx'⟩|⟨_,hxu⟩
  .rcases h.known i a (by rw[touchAt_of hx'];exact hxa) hm with y|y|y
   .exact .inl ⟨y.1.app _,y.2.app _⟩
   .exact .inr (.inl ⟨y.1.app _,y.2⟩)
   .exact .inr (.inr ⟨y.1.app _,y.2⟩)
  .obtain⟨e,he,ea,eg⟩:=pY hxu
   have:=knows_own hx;rw[eg]at this;exact .inr (.inr ⟨this,(hes e he).2 a (by rw[<-ea];exact hxa) hm⟩)
theorem dP.still(h:dP W F0 FW t){u:Trace}(hu:∀op∈u,op.act.touch?=none)(h0:Deaf (t++u) 0=0)(hW:Deaf (t++u) W=0):dP W F0 FW (t++u):=by
 refine⟨λsaid=>?_,λi a ha hm=>?_,h0,hW⟩
 .rintro⟨i,j,hij,⟨a,b,ha,hb,hc⟩,n1,n2⟩
  obtain⟨x,hx,hxa⟩:=touch_of ha;obtain⟨y,hy,hyb⟩:=touch_of hb;rcases getElem?_append_cases hy with⟨hj,hy'⟩|⟨hj,hyu⟩
  .rcases getElem?_append_cases hx with⟨hi,hx'⟩|⟨_,hxu⟩
   .exact h.clean said ⟨i,j,hij,⟨a,b,by simp[Trace.act?,hx',hxa],by simp[Trace.act?,hy',hyb],hc⟩,λe=>n1 (hb_app u e),λe=>n2 (hb_app u e)⟩
   .rw[hu x hxu]at hxa;cases hxa
  .rw[hu y hyu]at hyb;cases hyb
 .obtain⟨x,hx,hxa⟩:=touch_of ha
  rcases getElem?_append_cases hx with⟨_,hx'⟩|⟨_,hxu⟩
  .rcases h.known i a (by rw[touchAt_of hx'];exact hxa) hm with y|y|y
   .exact .inl ⟨y.1.app _,y.2.app _⟩
   .exact .inr (.inl ⟨y.1.app _,y.2⟩)
   .exact .inr (.inr ⟨y.1.app _,y.2⟩)
  .rw[hu x hxu]at hxa;cases hxa
end
def rJ(u:Trace):Prop:=∀op∈u,op.act≠.mark .disable/\op.act≠.mark .enable
theorem Ji{t u:Trace}(hu:rJ u)(g:Nat):∀j,(t++u).deaf g (t.size+j)=Deaf t g:=by
 intro j;induction j with
 |zero =>
  have key:∀k,k<=t.size->(t++u).deaf g k=t.deaf g k:=by
   intro k;induction k with
   |zero=>intro _;rfl
   |succ k ih =>
    intro hk;simp only[Trace.deaf];rw[getElem?_append_old (by omega),ih (by omega)]
  exact key t.size (Jb0 _)
 |succ j ih =>
  rw[<-Nat.add_assoc];simp only[Trace.deaf];rw[ih];split
  .rename_i h
   rcases getElem?_append_cases h with⟨hlt,_⟩|⟨_,hm⟩
   .omega
   .exact absurd rfl (hu _ hm).1
  .rename_i h
   rcases getElem?_append_cases h with⟨hlt,_⟩|⟨_,hm⟩
   .omega
   .exact absurd rfl (hu _ hm).2
  .rfl
theorem mF{t u:Trace}(hu:rJ u)(g:Nat):Deaf (t++u) g=Deaf t g:=by
 have:=Ji (t:=t) hu g u.size;rw[<-this];unfold Deaf;rw[Array.size_append]
theorem heard_new{t u:Trace}(hu:rJ u){j:Nat}{op:MemOp}(h:(t++u)[t.size+j]?=some op)(hd:Deaf t op.g=0):(t++u).heard (t.size+j) :=
 ⟨op.g,by simp[Trace.g?,h],by rw[Ji hu];exact hd⟩
theorem VL{t:Trace}(h1:∀said,¬Race said t)(h2:∀i a,touchAt t i=some a->a.loc.isMemory=true->Knows t 0 i)(h3:Deaf t 0=0):jI t:=by
 obtain⟨B,hB⟩:=Sr t;refine⟨B,h1,λi a ha hm=>.inl (h2 i a ha hm),?_,h3,hB⟩;intro i g hg hne hc;obtain⟨x,hx,hm,_⟩:=hc;obtain⟨q,z,hz,hzg,hb⟩:=h2 i x hx hm;rcases hb with rfl|hb
 .have:t.g? i=some z.g:=by simp[Trace.g?,hz]
  rw[this]at hg;cases hg
  exact absurd hzg hne
 .exact⟨q,by simp[Trace.g?,hz,hzg],hb⟩
theorem jI.known{t:Trace}(h:jI t):∀i a,touchAt t i=some a->a.loc.isMemory=true->Knows t 0 i:=by
 obtain⟨B,h⟩:=h;exact λi a ha hm=>(h.known i a ha hm).elim id λx=>x.1.elim
theorem qY{t u:Trace}{j:Nat}{op:MemOp}(h:u[j]?=some op):(t++u)[t.size+j]?=some op:=by
 rw[Array.getElem?_append_right (Jbv _ _),Nat.add_sub_cancel_left];exact h
theorem Dn{t:Trace}{i j:Nat}(h:Notices t i j)(hi:t.heard i)(hj:t.heard j):HappensBefore t i j:=.single (.inr ⟨h,hi,hj⟩)
section
variable{W:Nat}{F0 FW:Nat->Prop}{t:Trace}
theorem old_touch{u:Trace}(hu:∀op∈u,op.act.touch?=none){i:Nat}{a:Touch}(ha:touchAt (t++u) i=some a):touchAt t i=some a:=by
 obtain⟨x,hx,hxa⟩:=touch_of ha;rcases getElem?_append_cases hx with⟨_,hx'⟩|⟨_,hxu⟩
 .rw[touchAt_of hx'];exact hxa
 .rw[hu x hxu]at hxa;cases hxa
theorem dP.start(h:jI t)(_hW:W≠0)(he:Deaf t W=0)(fn fn':FuncId)(pos pos':String):dP W F0 FW (t++#[⟨0,fn,pos,.go W⟩,⟨W,fn',pos',.start⟩]):=by
 have hear:rJ #[⟨0,fn,pos,.go W⟩,⟨W,fn',pos',.start⟩]:=by
  intro op hop;simp only[Jbq,Jb3,Jbw,Jbx]at hop;rcases hop with rfl|rfl<;>exact⟨nofun,nofun⟩
 have BO:∀op∈(#[⟨0,fn,pos,.go W⟩,⟨W,fn',pos',.start⟩]:Trace),op.act.touch?=none:=by
  intro op hop;simp only[Jbq,Jb3,Jbw,Jbx]at hop;rcases hop with rfl|rfl<;>rfl
 have h0:Deaf t 0=0:=h.choose_spec.hears;have hT:dP W (λ_=>True) (λ_=>True) t:=⟨h.choose_spec.clean,λi a ha hm=>.inr (.inl ⟨h.known i a ha hm,by cases hl:a.loc<;>rw[hl]at hm<;>first|trivial|cases hm⟩),h0,he⟩;have hS:=hT.still BO ((mF hear 0).trans h0) ((mF hear W).trans he);have g0:=qY (t:=t) (u:=#[⟨0,fn,pos,.go W⟩,⟨W,fn',pos',.start⟩]) (j:=0) (op:=⟨0,fn,pos,.go W⟩) rfl;have g1:=qY (t:=t) (u:=#[⟨0,fn,pos,.go W⟩,⟨W,fn',pos',.start⟩]) (j:=1) (op:=⟨W,fn',pos',.start⟩) rfl;refine⟨hS.clean,λi a ha hm=>?_,hS.nL,hS.wL⟩;have hk:=h.known i a (old_touch BO ha) hm;have e1:HappensBefore (t++#[⟨0,fn,pos,.go W⟩,⟨W,fn',pos',.start⟩]) i (t.size+0):=hk.hb_new (Jb0 _) g0 rfl;have e2:HappensBefore (t++#[⟨0,fn,pos,.go W⟩,⟨W,fn',pos',.start⟩]) (t.size+0) (t.size+1):=Dn (.spawn (child:=W) (by rw[act?_of g0]) (by rw[act?_of g1]) (by simp only[Trace.g?,g1,Jbb])) (heard_new hear g0 h0) (heard_new hear g1 he);exact .inl ⟨hk.app _,⟨t.size+1,_,g1,rfl,.inr (e1.trans e2)⟩⟩
theorem dP.exchange(h:dP W F0 FW t)(xB Bb:Nat->Prop)(c k:Nat)(fn fn':FuncId)(pos pos':String) :
 dP W xB Bb (t++#[⟨W,fn,pos,.send c k⟩,⟨0,fn',pos',.recv c k 0⟩,⟨W,fn,pos,.sendDone c k⟩,⟨0,fn',pos',.recvDone c k⟩]):=by
 generalize hu:(#[⟨W,fn,pos,.send c k⟩,⟨0,fn',pos',.recv c k 0⟩,⟨W,fn,pos,.sendDone c k⟩,⟨0,fn',pos',.recvDone c k⟩]:Trace)=u;have hear:rJ u:=by
  intro op hop;rw[<-hu]at hop;simp only[Jbq,Jb3,Jbw,Jbx]at hop;rcases hop with rfl|rfl|rfl|rfl<;>exact⟨nofun,nofun⟩
 have BO:∀op∈u,op.act.touch?=none:=by
  intro op hop;rw[<-hu]at hop;simp only[Jbq,Jb3,Jbw,Jbx]at hop;rcases hop with rfl|rfl|rfl|rfl<;>rfl
 have hS:=h.still BO ((mF hear 0).trans h.nL) ((mF hear W).trans h.wL);have g0:=qY (t:=t) (u:=u) (j:=0) (op:=⟨W,fn,pos,.send c k⟩) (by rw[<-hu];rfl);have g1:=qY (t:=t) (u:=u) (j:=1) (op:=⟨0,fn',pos',.recv c k 0⟩) (by rw[<-hu];rfl);have g2:=qY (t:=t) (u:=u) (j:=2) (op:=⟨W,fn,pos,.sendDone c k⟩) (by rw[<-hu];rfl);have g3:=qY (t:=t) (u:=u) (j:=3) (op:=⟨0,fn',pos',.recvDone c k⟩) (by rw[<-hu];rfl);have e1:HappensBefore (t++u) (t.size+0) (t.size+3):=Dn (.handOver (c:=c) (k:=k) (by rw[act?_of g0]) (by rw[act?_of g3])) (heard_new hear g0 h.wL) (heard_new hear g3 h.nL);have e2:HappensBefore (t++u) (t.size+1) (t.size+2):=Dn (.room (c:=c) (k:=k) (cap:=0) (by rw[act?_of g1]) (by rw[act?_of g2];rfl)) (heard_new hear g1 h.nL) (heard_new hear g2 h.wL);have k0:∀i,Knows t 0 i->Knows (t++u) W i:=λi hk=>⟨t.size+2,_,g2,rfl,.inr ((hk.hb_new (Jbv _ _) g1 rfl).trans e2)⟩
 have kW:∀i,Knows t W i->Knows (t++u) 0 i:=λi hk=>⟨t.size+3,_,g3,rfl,.inr ((hk.hb_new (Jbv _ _) g0 rfl).trans e1)⟩
 refine⟨hS.clean,λi a ha hm=>.inl ?_,hS.nL,hS.wL⟩;rcases h.known i a (old_touch BO ha) hm with x|x|x
 .exact⟨x.1.app _,x.2.app _⟩
 .exact⟨x.1.app _,k0 i x.1⟩
 .exact⟨kW i x.1,x.1.app _⟩
structure rM(c pc:Nat)(F0 FW:Nat->Prop)(t:Trace):Prop where
 clean:∀said,¬Race said t
 known:∀i a,touchAt t i=some a->a.loc.isMemory=true->Knows t 0 i\/(Before t i pc/\BL FW a.loc)
 act:t.act? pc=some (.close c)
 hrd:t.heard pc
 nL:Deaf t 0=0
theorem dP.close(h:dP W F0 FW t)(hW:W≠0)(hd:∀b,F0 b->¬FW b){c:Nat}(hc:FW c)(fn:FuncId)(pos:String) :
 rM c (t.size+1) F0 FW (t++MemOp.ofEvents W fn pos #[⟨.obj c,false,true⟩,⟨.obj c,true,true⟩]):=by
 have hev:∀e∈(#[⟨.obj c,false,true⟩,⟨.obj c,true,true⟩]:Array Event),BN FW e:=by
  intro e he;simp only[Jbq,Jb3,Jbw,Jbx]at he;rcases he with rfl|rfl
  .refine⟨⟨nofun,nofun⟩,λx hx _=>?_⟩
   cases hx
   exact hc
  .exact⟨⟨nofun,nofun⟩,λx hx _=>by cases hx⟩
 have hT:=h.work hW hd (fn:=fn) (pos:=pos) hev;generalize hu:MemOp.ofEvents W fn pos #[⟨.obj c,false,true⟩,⟨.obj c,true,true⟩]=u at hT;have g1:=qY (t:=t) (u:=u) (j:=1) (op:=⟨W,fn,pos,.close c⟩) (by rw[<-hu,ofEvents_eq,Jbj];rfl);have hear:rJ u:=by
  intro op hop;rw[<-hu]at hop;obtain⟨e,he,ea,_⟩:=pY hop;simp only[Jbq,Jb3,Jbw,Jbx]at he;rw[ea];rcases he with rfl|rfl<;>exact⟨nofun,nofun⟩
 refine⟨hT.clean,λi a ha hm=>?_,by rw[act?_of g1],heard_new hear g1 h.wL,hT.nL⟩;obtain⟨x,hx,hxa⟩:=touch_of ha;rcases getElem?_append_cases hx with⟨_,hx'⟩|⟨hge,hxu⟩
 .rcases h.known i a (by rw[touchAt_of hx'];exact hxa) hm with y|y|y
  .exact .inl (y.1.app _)
  .exact .inl (y.1.app _)
  .exact .inr ⟨.inr (y.1.hb_new (Jbv _ _) g1 rfl),y.2⟩
 .rw[<-hu]at hxu
  obtain⟨e,he,ea,eg⟩:=pY hxu;refine .inr ⟨?_,(hev e he).2 a (by rw[<-ea];exact hxa) hm⟩;have hlt:=lt_size_of_getElem? hx;have hsz:u.size=2:=by rw[<-hu,ofEvents_eq,Array.size_map];rfl
  rw[Array.size_append,hsz]at hlt;rcases Nat.lt_or_ge i (t.size+1)with hi|hi
  .exact .inr (hb_po hi hx g1 eg)
  .exact .inl (by omega)
theorem rM.main{c pc:Nat}(h:rM c pc F0 FW t)(hd:∀b,F0 b->¬FW b){fn:FuncId}{pos:String}{es:Array Event}(hes:∀e∈es,BN F0 e):rM c pc F0 FW (t++MemOp.ofEvents 0 fn pos es):=by
 have hpc:pc<t.size:=lt_of_act? h.act;refine⟨λsaid=>noRace_append (h.clean said) ofEvents_g λi a ha op hop b hb hc=>?_,λi a ha hm=>?_,by rw[act?_old hpc];exact h.act,(heard_old hpc).2 h.hrd,(zM λe he=>(hes e he).1).trans h.nL⟩
 .obtain⟨e,he,ea,_⟩:=pY hop
  have hm:a.loc.isMemory=true:=hc.2.1;have hin:BL F0 b.loc:=(hes e he).2 b (by rw[<-ea];exact hb) (by rw[<-hc.1];exact hm);rcases h.known i a ha hm with x|x
  .exact x
  .rw[hc.1]at x
   exact(BM hd hin x.2).elim
 .obtain⟨x,hx,hxa⟩:=touch_of ha
  rcases getElem?_append_cases hx with⟨_,hx'⟩|⟨_,hxu⟩
  .exact(h.known i a (by rw[touchAt_of hx'];exact hxa) hm).imp (·.app _) λy=>⟨y.1.app _,y.2⟩
  .obtain⟨e,he,ea,eg⟩:=pY hxu
   have:=knows_own hx;rw[eg]at this;exact .inl this
theorem rM.grow{c pc:Nat}{xB:Nat->Prop}(h:rM c pc F0 FW t):rM c pc xB FW t:=⟨h.clean,h.known,h.act,h.hrd,h.nL⟩
theorem BP{said:Bool}{u:Trace}(h:¬Race said t)(hu:∀op∈u,op.act.touch?=none):¬Race said (t++u):=by
 rintro⟨i,j,hij,⟨a,b,ha,hb,hc⟩,n1,n2⟩;obtain⟨x,hx,hxa⟩:=touch_of ha;obtain⟨y,hy,hyb⟩:=touch_of hb;rcases getElem?_append_cases hy with⟨hj,hy'⟩|⟨hj,hyu⟩
 .rcases getElem?_append_cases hx with⟨hi,hx'⟩|⟨_,hxu⟩
  .exact h ⟨i,j,hij,⟨a,b,by simp[Trace.act?,hx',hxa],by simp[Trace.act?,hy',hyb],hc⟩,λe=>n1 (hb_app u e),λe=>n2 (hb_app u e)⟩
  .rw[hu x hxu]at hxa;cases hxa
 .rw[hu y hyu]at hyb;cases hyb
theorem rM.still{c pc:Nat}(h:rM c pc F0 FW t){u:Trace}(hu:∀op∈u,op.act.touch?=none)(h0:Deaf (t++u) 0=0):rM c pc F0 FW (t++u):=by
 have hpc:pc<t.size:=lt_of_act? h.act;exact⟨λsaid=>BP (h.clean said) hu,λi a ha hm=>(h.known i a (old_touch hu ha) hm).imp (·.app _) λy=>⟨y.1.app _,y.2⟩,by rw[act?_old hpc];exact h.act,(heard_old hpc).2 h.hrd,h0⟩
theorem rM.met{c pc:Nat}(h:rM c pc F0 FW t)(fn:FuncId)(pos:String):jI (t++#[⟨0,fn,pos,.recvClosed c⟩]):=by
 have hpc:pc<t.size:=lt_of_act? h.act;have hear:rJ #[⟨0,fn,pos,.recvClosed c⟩]:=by
  intro op hop;simp only[Jbq,Jb3,Jbw,Jbx]at hop;subst hop;exact⟨nofun,nofun⟩
 have BO:∀op∈(#[⟨0,fn,pos,.recvClosed c⟩]:Trace),op.act.touch?=none:=by
  intro op hop;simp only[Jbq,Jb3,Jbw,Jbx]at hop;subst hop;rfl
 have g0:=qY (t:=t) (u:=#[⟨0,fn,pos,.recvClosed c⟩]) (j:=0) (op:=⟨0,fn,pos,.recvClosed c⟩) rfl;have e1:HappensBefore (t++#[⟨0,fn,pos,.recvClosed c⟩]) pc (t.size+0):=Dn (.closed (c:=c) (by rw[act?_old hpc];exact h.act) (by rw[act?_of g0])) ((heard_old hpc).2 h.hrd) (heard_new hear g0 h.nL);refine VL (λsaid=>BP (h.clean said) BO) (λi a ha hm=>?_) ((mF hear 0).trans h.nL);rcases h.known i a (old_touch BO ha) hm with x|x
 .exact x.app _
 .exact⟨t.size+0,_,g0,rfl,.inr ((x.1.app _).hb e1)⟩
end
end
section
open Go Go.Conc
open Go.ConcN (sumTo upd sumTo_upd upd_ne upd_same)
def dG(w:World)(c k:Nat):Prop:=w.heap[c]?=some (.chan 0 #[] false k k false)
theorem dG.at{w:World}{c k:Nat}(h:dG w c k)(d:Nat):dG (w.at d) c k:=h
def DW(pk th:Nat)(w w':World)(es:Array Event):Prop:=(∀e∈es,nK e)/\∀c,c=pk\/c=th->∀o,o.isChan=true->w.heap[c]?=some o->w'.heap[c]?=some o
theorem DW.of{pk th:Nat}{w w':World}{es:Array Event}(h:VJ w w' es):DW pk th w w' es:=⟨h.1,λc _ o ho hc=>(h.2 c o ho).1 hc⟩
def dB(pk th:Nat)(z0 z1:Value):Array CommCase:=#[rcase pk z0,rcase th z1]
section
variable(P:Program)(cs:Array CommCase)(A2:Goroutine)
structure iY(a:Goroutine):Prop where
 run:a.status=.running
 fr:a.frame=A2.frame
 cl:a.callers=A2.callers
 dy:a.dying=A2.dying
 KT:∀w,stepG P true a w=.comm A2 cs true .select w #[]
def QW:Nat->Goroutine->Prop
 |0,a=>iY P cs A2 a
 |n+1,a=>iY P cs A2 a\/(a.status=.running/\∃a',(∀w,stepG P true a w=.go a' w #[])/\QW n a')
def MQ(n:Nat)(a:Goroutine):Prop:=(∃k,n=k+1/\QW P cs A2 k a)\/(n=0/\a=parked A2 cs .select)
end
section
variable{P:Program}{pk th:Nat}{z0 z1:Value}{A2:Goroutine}
theorem QW.running{cs:Array CommCase}:∀{n:Nat} {a:Goroutine},QW P cs A2 n a->a.status=.running
 |0,_,h=>h.run
 |_+1,_,h=>h.elim (·.run) (·.1)
theorem QW.cases{cs:Array CommCase}{n:Nat}{a:Goroutine}(h:QW P cs A2 n a):iY P cs A2 a\/∃k a',n=k+1/\(∀w,stepG P true a w=.go a' w #[])/\QW P cs A2 k a':=by
 cases n with
 |zero=>exact .inl h
 |succ n=>exact h.imp id λ⟨_,a',h1,h2⟩=>⟨n,a',rfl,h1,h2⟩
theorem uk{w:World}{kp kt:Nat}(h1:dG w pk kp)(h2:dG w th kt):(parked A2 (dB pk th z0 z1) .select).again w=parked A2 (dB pk th z0 z1) .select:=by
 refine again_all_open λcc hcc=>?_
 simp only[dB,Jbq,Jb3,Jbw,Jbx]at hcc;rcases hcc with rfl|rfl
 .exact⟨_,_,_,_,_,_,_,rfl,h1⟩
 .exact⟨_,_,_,_,_,_,_,rfl,h2⟩
theorem tT{x x' g:Goroutine}{w:World}(h:g.again w=g):woken P x x' w g=g:=by
 unfold woken;split
 .exact h
 .rfl
theorem MQ.woken{w:World}{kp kt n:Nat}{a x x':Goroutine}(h:MQ P (dB pk th z0 z1) A2 n a)(h1:dG w pk kp)(h2:dG w th kt):Go.Conc.woken P x x' w a=a:=by
 rcases h with⟨k,_,h⟩|⟨_,rfl⟩
 .exact woken_run h.running
 .exact tT (uk h1 h2)
theorem MQ.awake{cs:Array CommCase}{n:Nat}{a:Goroutine}(h:MQ P cs A2 n a):Go.Conc.awake a:=by
 rcases h with⟨k,_,h⟩|⟨_,rfl⟩
 .exact awake_of (.inl h.running)
 .exact λt ht=>by cases ht
theorem yx{n d:Nat}{g:Goroutine}(h:QuitsD P n d g)(c:Nat)(b:Bool):offersAt g c b=[]:=by
 refine offersAt_of_not_blocked ?_ c b;rcases h.status with h|h<;>rw[h]<;>exact nofun
theorem uH{Sp:Nat->Prop}{t:Trace}{gs:Array Goroutine}{q:Nat->Nat}(hL:aU Sp P t gs q){i c:Nat}{b:Bool}(hs:∀j g,Sp j->j≠i->gs[j]?=some g->offersAt g c b=[]):partners (gs.setIfInBounds i ph) c b=[]:=by
 refine partners_nil λj g hg=>?_
 rcases getElem?_stand gs i j g hg with⟨_,rfl⟩|⟨hne,hg⟩
 .rfl
 .by_cases hj:Sp j
  .exact hs j g hj hne hg
  .exact yx (hL.old j g hj hg) c b
def Two(W:Nat)(i:Nat):Prop:=i=0\/i=W
structure yZ(P:Program)(W pk th:Nat)(z0 z1:Value)(A2:Goroutine)(kp kt:Nat)(gs:Array Goroutine)(a b:Goroutine)(w:World)(t:Trace)(q:Nat->Nat)(n:Nat):Prop where
 g0:gs[0]?=some a
 gW:gs[W]?=some b
 w0:W≠0
 lv:aU (Two W) P t gs q
 tr:dP W (λ_=>False) (λ_=>True) t
 op:dG w pk kp
 ot:dG w th kt
 mq:MQ P (dB pk th z0 z1) A2 n a
theorem Zi{e:Event}(h:nK e):BN (λ_=>True) e:=⟨h,λx _ hm=>by cases hl:x.loc<;>rw[hl]at hm<;>first|trivial|cases hm⟩
theorem F3{W:Nat}{F0 FW:Nat->Prop}{t:Trace}(h:dP W F0 FW t){i:Nat}(h0:i≠0)(hW:i≠W){fn:FuncId}{pos:String}{es:Array Event}(hm:∀e∈es,Event.mute e=true):dP W F0 FW (t++MemOp.ofEvents i fn pos es) :=
 h.still (λop hop=>by obtain⟨e,he,ea,_⟩:=pY hop;rw[ea];exact touch_mute (hm e he)) ((Deaf_other t h0 _ ofEvents_g).trans h.nL) ((Deaf_other t hW _ ofEvents_g).trans h.wL)
theorem yZ.move{W kp kt:Nat}{gs:Array Goroutine}{a b:Goroutine}{w:World}{t:Trace}{q:Nat->Nat}{n:Nat}(h:yZ P W pk th z0 z1 A2 kp kt gs a b w t q n)(hb:b.status=.running)(sl:Option (Nat×Nat)) :
 (∃d sl',stepT P (crowd gs w sl)=runT P (crowd gs (w.at d) sl') W) \/
 ∃d sl' gs' a' ops q' n',stepT P (crowd gs w sl)=(.next (crowd gs' (w.at d) sl'),ops)/\gs'.size=gs.size/\yZ P W pk th z0 z1 A2 kp kt gs' a' b (w.at d) (t++ops) q' n'/\n'+sumTo gs.size q'<n+sumTo gs.size q:=by
 have haw:=h.lv.awake λi g hi hg=>by
  rcases hi with rfl|rfl
  .rw[h.g0]at hg;cases hg;exact h.mq.awake
  .rw[h.gW]at hg;cases hg;exact awake_of (.inl hb)
 obtain⟨i,g,d,sl',hi,hg,hst⟩:=crowd_pick (P:=P) (w:=w) (sl:=sl) haw ⟨W,b,h.gW,hb⟩;by_cases kN:i=W
 .subst kN
  exact .inl ⟨d,sl',hst⟩
 refine .inr ?_;have hlt:0<gs.size:=(Jbd.1 h.g0).1;by_cases hi0:i=0
 .subst hi0
  obtain rfl:g=a:=by have:=h.g0;rw[hi]at this;exact Jbm this
  rcases h.mq with⟨k,rfl,hk⟩|⟨_,rfl⟩
  .rcases hk.cases with hs|⟨k',a',rfl,hgo,hk'⟩
   ·-- it comes to the select,and waits
    have hno:∀cc∈dB pk th z0 z1,NoWays (w.at d) (gs.setIfInBounds 0 ph) cc:=by
     have hp:∀c,partners (gs.setIfInBounds 0 ph) c true=[]:=λc=>uH h.lv λj x hj hne hx=>by
      rcases hj with rfl|rfl
      .exact absurd rfl hne
      .rw[h.gW]at hx;cases hx
       exact offersAt_of_not_blocked (by rw[hb];exact nofun) c true
     intro cc hcc;simp only[dB,Jbq,Jb3,Jbw,Jbx]at hcc;rcases hcc with rfl|rfl
     .exact ways_recv_none (h.op.at d) (hp pk)
     .exact ways_recv_none (h.ot.at d) (hp th)
    have hr:=crowd_waits (P:=P) (sl:=sl') (i:=0) hi (show stepG P (0==0) g (w.at d)=_ from hs.KT (w.at d)) hno;refine⟨d,sl',_,parked A2 (dB pk th z0 z1) .select,_,q,0,hst.trans hr,by simp,?_,by omega⟩;have hops:(MemOp.ofEvents 0 g.frame.fn g.frame.place #[]:Trace)=#[]:=rfl;rw[hops,Jby];refine⟨?_,?_,h.w0,⟨λj x hj hx=>?_,λj hj=>h.lv.above j (by simpa using hj)⟩,h.tr,h.op.at d,h.ot.at d,.inr ⟨rfl,rfl⟩⟩
    .rw[Array.getElem?_setIfInBounds_self_of_lt hlt]
    .rw[Array.getElem?_setIfInBounds_ne (Ne.symm h.w0)];exact h.gW
    .rw[Array.getElem?_setIfInBounds_ne (λe=>hj (.inl e.symm))]at hx
     exact h.lv.old j x hj hx
   .have hr:=runT_crowd_go (P:=P) (sl:=sl') (i:=0) hi (show stepG P (0==0) g (w.at d)=_ from hgo (w.at d))
    refine⟨d,sl',_,a',_,q,k'+1,hst.trans hr,by simp,?_,by omega⟩;refine⟨ji hlt,by rw[dO (Ne.symm h.w0) h.gW,woken_run hb],h.w0,h.lv.pg (.inl rfl) hlt ofEvents_g,?_,h.op.at d,h.ot.at d,.inl ⟨k',rfl,hk'⟩⟩;have hops:(MemOp.ofEvents 0 g.frame.fn g.frame.place #[]:Trace)=#[]:=rfl;rw[hops,Jby];exact h.tr
  .cases hg
 .have hsp:¬Two W i:=λhx=>hx.elim hi0 kN
  obtain⟨g',es,q',hm,yY,hL',hlt'⟩:=h.lv.slip (w:=w.at d) hi hsp hi0 hg sl';refine⟨d,sl',_,a,_,q',n,hst.trans yY,by simp,?_,by omega⟩;exact⟨by rw[dO hi0 h.g0,h.mq.woken (h.op.at d) (h.ot.at d)],by rw[dO kN h.gW,woken_run hb],h.w0,hL',F3 h.tr hi0 kN hm,h.op.at d,h.ot.at d,h.mq⟩
theorem work{W kp kt:Nat}{pq:Goroutine->World->Prop}{b:Goroutine}{w:World}(hw:dD P false AtRel (DW pk th) pq b w) :
 ∀{gs:Array Goroutine} {a:Goroutine} {sl:Option (Nat×Nat)} {t:Trace} {q:Nat->Nat} {n:Nat},yZ P W pk th z0 z1 A2 kp kt gs a b w t q n ->
  Reaches P (λm t'=>∃gs' a' b' w' sl' q' n',m=crowd gs' w' sl'/\gs'.size=gs.size/\yZ P W pk th z0 z1 A2 kp kt gs' a' b' w' t' q' n'/\pq b' w') (crowd gs w sl) t:=by
 refine hw (λb w=>∀{gs:Array Goroutine} {a:Goroutine} {sl:Option (Nat×Nat)} {t:Trace} {q:Nat->Nat} {n:Nat},yZ P W pk th z0 z1 A2 kp kt gs a b w t q n->Reaches P (λm t'=>∃gs' a' b' w' sl' q' n',m=crowd gs' w' sl'/\gs'.size=gs.size/\yZ P W pk th z0 z1 A2 kp kt gs' a' b' w' t' q' n'/\pq b' w') (crowd gs w sl) t) ?_ ?_
 .intro b w hs gs a sl t q n h
  exact .here ⟨gs,a,b,w,sl,q,n,rfl,rfl,h,hs w (atRel_refl w)⟩
 .intro b w hrun hstep gs a sl t q n
  suffices H:∀M w gs a sl t q n,n+sumTo gs.size q<=M->(∀w₁,AtRel w w₁->(stepG P false b w₁).goes λg' w' es=>DW pk th w₁ w' es/\∀{gs:Array Goroutine} {a:Goroutine} {sl:Option (Nat×Nat)} {t:Trace} {q:Nat->Nat} {n:Nat},yZ P W pk th z0 z1 A2 kp kt gs a g' w' t q n->Reaches P (λm t'=>∃gs' a' b' w' sl' q' n',m=crowd gs' w' sl'/\gs'.size=gs.size/\yZ P W pk th z0 z1 A2 kp kt gs' a' b' w' t' q' n'/\pq b' w') (crowd gs w' sl) t) ->
   yZ P W pk th z0 z1 A2 kp kt gs a b w t q n->Reaches P (λm t'=>∃gs' a' b' w' sl' q' n',m=crowd gs' w' sl'/\gs'.size=gs.size/\yZ P W pk th z0 z1 A2 kp kt gs' a' b' w' t' q' n'/\pq b' w') (crowd gs w sl) t from H _ w gs a sl t q n (Jb0 _) hstep
  intro M;induction M using Nat.strongRecOn with
  |ind M ih =>
   intro w gs a sl t q n hM hstep h;rcases h.move hrun sl with⟨d,sl',hst⟩|⟨d,sl',gs',a',ops,q',n',hst,hsz,h',hlt⟩
   .have hs:=hstep (w.at d) ⟨d,rfl⟩
    have hltW:W<gs.size:=(Jbd.1 h.gW).1;cases hgo:stepG P false b (w.at d)with
    |go b' w' es =>
     rw[hgo,goes_go]at hs;obtain⟨⟨hev,hch⟩,hnext⟩:=hs;have hr:=runT_crowd_go (P:=P) (sl:=sl') (i:=W) h.gW (show stepG P (W==0) b (w.at d)=_ by rw[show(W==0)=false by simpa using h.w0];exact hgo);refine Reaches.step (hst.trans hr) ?_;have op':dG w' pk kp:=hch pk (.inl rfl) _ rfl (h.op.at d);have ot':dG w' th kt:=hch th (.inr rfl) _ rfl (h.ot.at d);have hA:yZ P W pk th z0 z1 A2 kp kt ((gs.map (woken P b b' w')).setIfInBounds W b') a b' w' (t++MemOp.ofEvents W b.frame.fn b.frame.place es) q n :=
      ⟨by rw[dO h.w0 h.g0,h.mq.woken op' ot'],ji hltW,h.w0,h.lv.pg (.inr rfl) hltW ofEvents_g,h.tr.work h.w0 (λ_ hx=>hx.elim) λe he=>Zi (hev e he),op',ot',h.mq⟩
     have:=hnext (sl:=sl') hA;simpa using this
    |_=>rw[hgo]at hs;exact hs.elim
   .refine Reaches.step hst ?_
    have:=ih (n'+sumTo gs'.size q') (by rw[hsz];omega) (w.at d) gs' a' sl' _ q' n' (Jb0 _) (λw₁ h1=>hstep w₁ (atRel_trans _ _ _ ⟨d,rfl⟩ h1)) h';rwa [hsz]at this
end
end
