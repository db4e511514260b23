/- Two goroutines at work, each on its own blocks, over a channel without a buffer and a close: what the trace tells. -/
import Derived.Test.YtignemioillaiabGreatG05
import Derived.Conc.CrowdSel
namespace Go.Proofs.YtignemioillaiabGreat
set_option maxHeartbeats 8000000
set_option maxRecDepth 100000
section
open Go Go.Conc
def zK (F:Nat->Prop):Loc->Prop
 | .cell a=>F a.block
 | .obj r=>F r
 | _=>False
theorem Ip {F F':Nat->Prop} (h:∀ b,F b->F' b) {l:Loc} (hl:zK F l):zK F' l:=by
 cases l <;> first | exact h _ hl | exact hl
theorem zL {F F':Nat->Prop} (h:∀ b,F b->¬ F' b) {l:Loc} (hl:zK F l) (hl':zK F' l):False:=by
 cases l <;> first | exact h _ hl hl' | exact hl
def zM (F:Nat->Prop) (e:Event):Prop:=lX e/\∀ x,(MemAct.ofEvent e).touch? = some x->x.loc.isMemory=true->zK F x.loc
structure dJ (W:Nat) (F0 FW:Nat->Prop) (t:Trace):Prop where
 clean:∀ said,¬ Race said t
 known:∀ i a,touchAt t i=some a->a.loc.isMemory=true->(Knows t 0 i/\Knows t W i)\/(Knows t 0 i/\zK F0 a.loc)\/(Knows t W i/\zK FW a.loc)
 lY:Deaf t 0=0
 uC:Deaf t W=0
theorem xR {t:Trace} {g:Nat} {fn:FuncId} {pos:String} {es:Array Event} (h:∀ e∈es,lX e):Deaf (t++MemOp.ofEvents g fn pos es) g=Deaf t g:=by
 rw [Deaf_own];exact deafBehind_still (λ e he=>h e he) _
theorem nT {g:Nat} {fn:FuncId} {pos:String} {es:Array Event} {op:MemOp} (h:op∈MemOp.ofEvents g fn pos es):∃ e∈es,op.act=.ofEvent e/\op.g=g:=by
 rw [ofEvents_eq] at h;obtain ⟨e,he,rfl⟩:=Array.mem_map.1 h;exact ⟨e,he,rfl,rfl⟩
section
variable {W:Nat} {F0 FW vE yY:Nat->Prop} {t:Trace}
theorem dJ.grow (h:dJ W F0 FW t) (h0:∀ b,F0 b->vE b) (hW:∀ b,FW b->yY b):dJ W vE yY t :=
 ⟨h.clean,λ i a ha hm=>(h.known i a ha hm).imp id (Or.imp (λ x=>⟨x.1,Ip h0 x.2⟩) λ x=>⟨x.1,Ip hW x.2⟩),h.lY,h.uC⟩
theorem dJ.main (h:dJ W F0 FW t) (hW:W≠0) (hd:∀ b,F0 b->¬ FW b) {fn:FuncId} {pos:String} {es:Array Event} (hes:∀ e∈es,zM F0 e):dJ W F0 FW (t++MemOp.ofEvents 0 fn pos es):=by
 refine ⟨λ said=>noRace_append (h.clean said) ofEvents_g λ i a ha op hop b hb hc=>?_,λ i a ha hm=>?_,(xR λ e he=>(hes e he).1).trans h.lY,(Deaf_other t (Ne.symm hW) _ ofEvents_g).trans h.uC⟩
 ·obtain ⟨e,he,ea,_⟩:=nT hop
  have hm:a.loc.isMemory=true:=hc.2.1;have hin:zK F0 b.loc:=(hes e he).2 b (by rw [<- ea];exact hb) (by rw [<- hc.1];exact hm);rcases h.known i a ha hm with x | x | x
  ·exact x.1
  ·exact x.1
  ·rw [hc.1] at x
   exact (zL hd hin x.2).elim
 ·obtain ⟨x,hx,hxa⟩:=touch_of ha
  rcases getElem?_append_cases hx with ⟨_,hx'⟩ | ⟨_,hxu⟩
  ·rcases h.known i a (by rw [touchAt_of hx'];exact hxa) hm with y | y | y
   ·exact .inl ⟨y.1.app _,y.2.app _⟩
   ·exact .inr (.inl ⟨y.1.app _,y.2⟩)
   ·exact .inr (.inr ⟨y.1.app _,y.2⟩)
  ·obtain ⟨e,he,ea,eg⟩:=nT hxu
   have:=knows_own hx;rw [eg] at this;exact .inr (.inl ⟨this,(hes e he).2 a (by rw [<- ea];exact hxa) hm⟩)
theorem dJ.work (h:dJ W F0 FW t) (hW:W≠0) (hd:∀ b,F0 b->¬ FW b) {fn:FuncId} {pos:String} {es:Array Event} (hes:∀ e∈es,zM FW e):dJ W F0 FW (t++MemOp.ofEvents W fn pos es):=by
 refine ⟨λ said=>noRace_append (h.clean said) ofEvents_g λ i a ha op hop b hb hc=>?_,λ i a ha hm=>?_,(Deaf_other t hW _ ofEvents_g).trans h.lY,(xR λ e he=>(hes e he).1).trans h.uC⟩
 ·obtain ⟨e,he,ea,_⟩:=nT hop
  have hm:a.loc.isMemory=true:=hc.2.1;have hin:zK FW b.loc:=(hes e he).2 b (by rw [<- ea];exact hb) (by rw [<- hc.1];exact hm);rcases h.known i a ha hm with x | x | x
  ·exact x.2
  ·rw [hc.1] at x
   exact (zL hd x.2 hin).elim
  ·exact x.1
 ·obtain ⟨x,hx,hxa⟩:=touch_of ha
  rcases getElem?_append_cases hx with ⟨_,hx'⟩ | ⟨_,hxu⟩
  ·rcases h.known i a (by rw [touchAt_of hx'];exact hxa) hm with y | y | y
   ·exact .inl ⟨y.1.app _,y.2.app _⟩
   ·exact .inr (.inl ⟨y.1.app _,y.2⟩)
   ·exact .inr (.inr ⟨y.1.app _,y.2⟩)
  ·obtain ⟨e,he,ea,eg⟩:=nT hxu
   have:=knows_own hx;rw [eg] at this;exact .inr (.inr ⟨this,(hes e he).2 a (by rw [<- ea];exact hxa) hm⟩)
theorem dJ.still (h:dJ W F0 FW t) {u:Trace} (hu:∀ op∈u,op.act.touch? = none) (h0:Deaf (t++u) 0=0) (hW:Deaf (t++u) W=0):dJ W F0 FW (t++u):=by
 refine ⟨λ said=>?_,λ i a ha hm=>?_,h0,hW⟩
 ·rintro ⟨i,j,hij,⟨a,b,ha,hb,hc⟩,n1,n2⟩
  obtain ⟨x,hx,hxa⟩:=touch_of ha;obtain ⟨y,hy,hyb⟩:=touch_of hb;rcases getElem?_append_cases hy with ⟨hj,hy'⟩ | ⟨hj,hyu⟩
  ·rcases getElem?_append_cases hx with ⟨hi,hx'⟩ | ⟨_,hxu⟩
   ·exact h.clean said ⟨i,j,hij,⟨a,b,by simp [Trace.act?,hx',hxa],by simp [Trace.act?,hy',hyb],hc⟩,λ e=>n1 (hb_app u e),λ e=>n2 (hb_app u e)⟩
   ·rw [hu x hxu] at hxa;cases hxa
  ·rw [hu y hyu] at hyb;cases hyb
 ·obtain ⟨x,hx,hxa⟩:=touch_of ha
  rcases getElem?_append_cases hx with ⟨_,hx'⟩ | ⟨_,hxu⟩
  ·rcases h.known i a (by rw [touchAt_of hx'];exact hxa) hm with y | y | y
   ·exact .inl ⟨y.1.app _,y.2.app _⟩
   ·exact .inr (.inl ⟨y.1.app _,y.2⟩)
   ·exact .inr (.inr ⟨y.1.app _,y.2⟩)
  ·rw [hu x hxu] at hxa;cases hxa
end
def pW (u:Trace):Prop:=∀ op∈u,op.act≠.mark .disable/\op.act≠.mark .enable
theorem F3 {t u:Trace} (hu:pW u) (g:Nat):∀ j,(t++u).deaf g (t.size+j)=Deaf t g:=by
 intro j;induction j with
 | zero =>
  have key:∀ k,k<=t.size->(t++u).deaf g k=t.deaf g k:=by
   intro k;induction k with
   | zero=>intro _;rfl
   | succ k ih =>
    intro hk;simp only [Trace.deaf];rw [getElem?_append_old (by omega),ih (by omega)]
  exact key t.size (Nat.le_refl _)
 | succ j ih =>
  rw [<- Nat.add_assoc];simp only [Trace.deaf];rw [ih];split
  ·rename_i h
   rcases getElem?_append_cases h with ⟨hlt,_⟩ | ⟨_,hm⟩
   ·omega
   ·exact absurd rfl (hu _ hm).1
  ·rename_i h
   rcases getElem?_append_cases h with ⟨hlt,_⟩ | ⟨_,hm⟩
   ·omega
   ·exact absurd rfl (hu _ hm).2
  ·rfl
theorem kR {t u:Trace} (hu:pW u) (g:Nat):Deaf (t++u) g=Deaf t g:=by
 have:=F3 (t:=t) hu g u.size;rw [<- this];unfold Deaf;rw [Array.size_append]
theorem heard_new {t u:Trace} (hu:pW u) {j:Nat} {op:MemOp} (h:(t++u)[t.size+j]? = some op) (hd:Deaf t op.g=0):(t++u).heard (t.size+j) :=
 ⟨op.g,by simp [Trace.g?,h],by rw [F3 hu];exact hd⟩
theorem RJ {t:Trace} (h1:∀ said,¬ Race said t) (h2:∀ i a,touchAt t i=some a->a.loc.isMemory=true->Knows t 0 i) (h3:Deaf t 0=0):ji t:=by
 obtain ⟨B,hB⟩:=OZ t;refine ⟨B,h1,λ i a ha hm=>.inl (h2 i a ha hm),?_,h3,hB⟩;intro i g hg hne hc;obtain ⟨x,hx,hm,_⟩:=hc;obtain ⟨q,z,hz,hzg,hb⟩:=h2 i x hx hm;rcases hb with rfl | hb
 ·have:t.g? i=some z.g:=by simp [Trace.g?,hz]
  rw [this] at hg;cases hg
  exact absurd hzg hne
 ·exact ⟨q,by simp [Trace.g?,hz,hzg],hb⟩
theorem ji.known {t:Trace} (h:ji t):∀ i a,touchAt t i=some a->a.loc.isMemory=true->Knows t 0 i:=by
 obtain ⟨B,h⟩:=h;exact λ i a ha hm=>(h.known i a ha hm).elim id λ x=>x.1.elim
theorem pz {t u:Trace} {j:Nat} {op:MemOp} (h:u[j]? = some op):(t++u)[t.size+j]? = some op:=by
 rw [Array.getElem?_append_right (Nat.le_add_right _ _),Nat.add_sub_cancel_left];exact h
theorem Be {t:Trace} {i j:Nat} (h:Notices t i j) (hi:t.heard i) (hj:t.heard j):HappensBefore t i j:=.single (.inr ⟨h,hi,hj⟩)
section
variable {W:Nat} {F0 FW:Nat->Prop} {t:Trace}
theorem old_touch {u:Trace} (hu:∀ op∈u,op.act.touch? = none) {i:Nat} {a:Touch} (ha:touchAt (t++u) i=some a):touchAt t i=some a:=by
 obtain ⟨x,hx,hxa⟩:=touch_of ha;rcases getElem?_append_cases hx with ⟨_,hx'⟩ | ⟨_,hxu⟩
 ·rw [touchAt_of hx'];exact hxa
 ·rw [hu x hxu] at hxa;cases hxa
theorem dJ.start (h:ji t) (_hW:W≠0) (he:Deaf t W=0) (fn fn':FuncId) (pos pos':String):dJ W F0 FW (t++#[⟨0,fn,pos,.go W⟩,⟨W,fn',pos',.start⟩]):=by
 have hear:pW #[⟨0,fn,pos,.go W⟩,⟨W,fn',pos',.start⟩]:=by
  intro op hop;simp only [List.mem_toArray,List.mem_cons,List.not_mem_nil,or_false] at hop;rcases hop with rfl | rfl <;> exact ⟨nofun,nofun⟩
 have zN:∀ op∈(#[⟨0,fn,pos,.go W⟩,⟨W,fn',pos',.start⟩]:Trace),op.act.touch? = none:=by
  intro op hop;simp only [List.mem_toArray,List.mem_cons,List.not_mem_nil,or_false] at hop;rcases hop with rfl | rfl <;> rfl
 have h0:Deaf t 0=0:=h.choose_spec.hears;have hT:dJ W (λ _=>True) (λ _=>True) t:=⟨h.choose_spec.clean,λ i a ha hm=>.inr (.inl ⟨h.known i a ha hm,by cases hl:a.loc <;> rw [hl] at hm <;> first | trivial | cases hm⟩),h0,he⟩;have hS:=hT.still zN ((kR hear 0).trans h0) ((kR hear W).trans he);have g0:=pz (t:=t) (u:=#[⟨0,fn,pos,.go W⟩,⟨W,fn',pos',.start⟩]) (j:=0) (op:=⟨0,fn,pos,.go W⟩) rfl;have g1:=pz (t:=t) (u:=#[⟨0,fn,pos,.go W⟩,⟨W,fn',pos',.start⟩]) (j:=1) (op:=⟨W,fn',pos',.start⟩) rfl;refine ⟨hS.clean,λ i a ha hm=>?_,hS.lY,hS.uC⟩;have hk:=h.known i a (old_touch zN ha) hm;have e1:HappensBefore (t++#[⟨0,fn,pos,.go W⟩,⟨W,fn',pos',.start⟩]) i (t.size+0):=hk.hb_new (Nat.le_refl _) g0 rfl;have e2:HappensBefore (t++#[⟨0,fn,pos,.go W⟩,⟨W,fn',pos',.start⟩]) (t.size+0) (t.size+1):=Be (.spawn (child:=W) (by rw [act?_of g0]) (by rw [act?_of g1]) (by simp only [Trace.g?,g1,Option.map_some])) (heard_new hear g0 h0) (heard_new hear g1 he);exact .inl ⟨hk.app _,⟨t.size+1,_,g1,rfl,.inr (e1.trans e2)⟩⟩
theorem dJ.exchange (h:dJ W F0 FW t) (vE yY:Nat->Prop) (c k:Nat) (fn fn':FuncId) (pos pos':String) :
 dJ W vE yY (t++#[⟨W,fn,pos,.send c k⟩,⟨0,fn',pos',.recv c k 0⟩,⟨W,fn,pos,.sendDone c k⟩,⟨0,fn',pos',.recvDone c k⟩]):=by
 generalize hu:(#[⟨W,fn,pos,.send c k⟩,⟨0,fn',pos',.recv c k 0⟩,⟨W,fn,pos,.sendDone c k⟩,⟨0,fn',pos',.recvDone c k⟩]:Trace)=u;have hear:pW u:=by
  intro op hop;rw [<- hu] at hop;simp only [List.mem_toArray,List.mem_cons,List.not_mem_nil,or_false] at hop;rcases hop with rfl | rfl | rfl | rfl <;> exact ⟨nofun,nofun⟩
 have zN:∀ op∈u,op.act.touch? = none:=by
  intro op hop;rw [<- hu] at hop;simp only [List.mem_toArray,List.mem_cons,List.not_mem_nil,or_false] at hop;rcases hop with rfl | rfl | rfl | rfl <;> rfl
 have hS:=h.still zN ((kR hear 0).trans h.lY) ((kR hear W).trans h.uC);have g0:=pz (t:=t) (u:=u) (j:=0) (op:=⟨W,fn,pos,.send c k⟩) (by rw [<- hu];rfl);have g1:=pz (t:=t) (u:=u) (j:=1) (op:=⟨0,fn',pos',.recv c k 0⟩) (by rw [<- hu];rfl);have g2:=pz (t:=t) (u:=u) (j:=2) (op:=⟨W,fn,pos,.sendDone c k⟩) (by rw [<- hu];rfl);have g3:=pz (t:=t) (u:=u) (j:=3) (op:=⟨0,fn',pos',.recvDone c k⟩) (by rw [<- hu];rfl);have e1:HappensBefore (t++u) (t.size+0) (t.size+3):=Be (.handOver (c:=c) (k:=k) (by rw [act?_of g0]) (by rw [act?_of g3])) (heard_new hear g0 h.uC) (heard_new hear g3 h.lY);have e2:HappensBefore (t++u) (t.size+1) (t.size+2):=Be (.room (c:=c) (k:=k) (cap:=0) (by rw [act?_of g1]) (by rw [act?_of g2];rfl)) (heard_new hear g1 h.lY) (heard_new hear g2 h.uC);have k0:∀ i,Knows t 0 i->Knows (t++u) W i:=λ i hk=>⟨t.size+2,_,g2,rfl,.inr ((hk.hb_new (Nat.le_add_right _ _) g1 rfl).trans e2)⟩
 have kW:∀ i,Knows t W i->Knows (t++u) 0 i:=λ i hk=>⟨t.size+3,_,g3,rfl,.inr ((hk.hb_new (Nat.le_add_right _ _) g0 rfl).trans e1)⟩
 refine ⟨hS.clean,λ i a ha hm=>.inl ?_,hS.lY,hS.uC⟩;rcases h.known i a (old_touch zN ha) hm with x | x | x
 ·exact ⟨x.1.app _,x.2.app _⟩
 ·exact ⟨x.1.app _,k0 i x.1⟩
 ·exact ⟨kW i x.1,x.1.app _⟩
structure pX (c pc:Nat) (F0 FW:Nat->Prop) (t:Trace):Prop where
 clean:∀ said,¬ Race said t
 known:∀ i a,touchAt t i=some a->a.loc.isMemory=true->Knows t 0 i\/(Before t i pc/\zK FW a.loc)
 act:t.act? pc=some (.close c)
 hrd:t.heard pc
 lY:Deaf t 0=0
theorem dJ.close (h:dJ W F0 FW t) (hW:W≠0) (hd:∀ b,F0 b->¬ FW b) {c:Nat} (hc:FW c) (fn:FuncId) (pos:String) :
 pX c (t.size+1) F0 FW (t++MemOp.ofEvents W fn pos #[⟨.obj c,false,true⟩,⟨.obj c,true,true⟩]):=by
 have hev:∀ e∈(#[⟨.obj c,false,true⟩,⟨.obj c,true,true⟩]:Array Event),zM FW e:=by
  intro e he;simp only [List.mem_toArray,List.mem_cons,List.not_mem_nil,or_false] at he;rcases he with rfl | rfl
  ·refine ⟨⟨nofun,nofun⟩,λ x hx _=>?_⟩
   cases hx
   exact hc
  ·exact ⟨⟨nofun,nofun⟩,λ x hx _=>by cases hx⟩
 have hT:=h.work hW hd (fn:=fn) (pos:=pos) hev;generalize hu:MemOp.ofEvents W fn pos #[⟨.obj c,false,true⟩,⟨.obj c,true,true⟩]=u at hT;have g1:=pz (t:=t) (u:=u) (j:=1) (op:=⟨W,fn,pos,.close c⟩) (by rw [<- hu,ofEvents_eq,Array.getElem?_map];rfl);have hear:pW u:=by
  intro op hop;rw [<- hu] at hop;obtain ⟨e,he,ea,_⟩:=nT hop;simp only [List.mem_toArray,List.mem_cons,List.not_mem_nil,or_false] at he;rw [ea];rcases he with rfl | rfl <;> exact ⟨nofun,nofun⟩
 refine ⟨hT.clean,λ i a ha hm=>?_,by rw [act?_of g1],heard_new hear g1 h.uC,hT.lY⟩;obtain ⟨x,hx,hxa⟩:=touch_of ha;rcases getElem?_append_cases hx with ⟨_,hx'⟩ | ⟨hge,hxu⟩
 ·rcases h.known i a (by rw [touchAt_of hx'];exact hxa) hm with y | y | y
  ·exact .inl (y.1.app _)
  ·exact .inl (y.1.app _)
  ·exact .inr ⟨.inr (y.1.hb_new (Nat.le_add_right _ _) g1 rfl),y.2⟩
 ·rw [<- hu] at hxu
  obtain ⟨e,he,ea,eg⟩:=nT hxu;refine .inr ⟨?_,(hev e he).2 a (by rw [<- ea];exact hxa) hm⟩;have hlt:=lt_size_of_getElem? hx;have hsz:u.size=2:=by rw [<- hu,ofEvents_eq,Array.size_map];rfl
  rw [Array.size_append,hsz] at hlt;rcases Nat.lt_or_ge i (t.size+1) with hi | hi
  ·exact .inr (hb_po hi hx g1 eg)
  ·exact .inl (by omega)
theorem pX.main {c pc:Nat} (h:pX c pc F0 FW t) (hd:∀ b,F0 b->¬ FW b) {fn:FuncId} {pos:String} {es:Array Event} (hes:∀ e∈es,zM F0 e):pX c pc F0 FW (t++MemOp.ofEvents 0 fn pos es):=by
 have hpc:pc<t.size:=lt_of_act? h.act;refine ⟨λ said=>noRace_append (h.clean said) ofEvents_g λ i a ha op hop b hb hc=>?_,λ i a ha hm=>?_,by rw [act?_old hpc];exact h.act,(heard_old hpc).2 h.hrd,(xR λ e he=>(hes e he).1).trans h.lY⟩
 ·obtain ⟨e,he,ea,_⟩:=nT hop
  have hm:a.loc.isMemory=true:=hc.2.1;have hin:zK F0 b.loc:=(hes e he).2 b (by rw [<- ea];exact hb) (by rw [<- hc.1];exact hm);rcases h.known i a ha hm with x | x
  ·exact x
  ·rw [hc.1] at x
   exact (zL hd hin x.2).elim
 ·obtain ⟨x,hx,hxa⟩:=touch_of ha
  rcases getElem?_append_cases hx with ⟨_,hx'⟩ | ⟨_,hxu⟩
  ·exact (h.known i a (by rw [touchAt_of hx'];exact hxa) hm).imp (·.app _) λ y=>⟨y.1.app _,y.2⟩
  ·obtain ⟨e,he,ea,eg⟩:=nT hxu
   have:=knows_own hx;rw [eg] at this;exact .inl this
theorem pX.grow {c pc:Nat} {vE:Nat->Prop} (h:pX c pc F0 FW t):pX c pc vE FW t:=⟨h.clean,h.known,h.act,h.hrd,h.lY⟩
theorem zO {said:Bool} {u:Trace} (h:¬ Race said t) (hu:∀ op∈u,op.act.touch? = none):¬ Race said (t++u):=by
 rintro ⟨i,j,hij,⟨a,b,ha,hb,hc⟩,n1,n2⟩;obtain ⟨x,hx,hxa⟩:=touch_of ha;obtain ⟨y,hy,hyb⟩:=touch_of hb;rcases getElem?_append_cases hy with ⟨hj,hy'⟩ | ⟨hj,hyu⟩
 ·rcases getElem?_append_cases hx with ⟨hi,hx'⟩ | ⟨_,hxu⟩
  ·exact h ⟨i,j,hij,⟨a,b,by simp [Trace.act?,hx',hxa],by simp [Trace.act?,hy',hyb],hc⟩,λ e=>n1 (hb_app u e),λ e=>n2 (hb_app u e)⟩
  ·rw [hu x hxu] at hxa;cases hxa
 ·rw [hu y hyu] at hyb;cases hyb
theorem pX.still {c pc:Nat} (h:pX c pc F0 FW t) {u:Trace} (hu:∀ op∈u,op.act.touch? = none) (h0:Deaf (t++u) 0=0):pX c pc F0 FW (t++u):=by
 have hpc:pc<t.size:=lt_of_act? h.act;exact ⟨λ said=>zO (h.clean said) hu,λ i a ha hm=>(h.known i a (old_touch hu ha) hm).imp (·.app _) λ y=>⟨y.1.app _,y.2⟩,by rw [act?_old hpc];exact h.act,(heard_old hpc).2 h.hrd,h0⟩
theorem pX.met {c pc:Nat} (h:pX c pc F0 FW t) (fn:FuncId) (pos:String):ji (t++#[⟨0,fn,pos,.recvClosed c⟩]):=by
 have hpc:pc<t.size:=lt_of_act? h.act;have hear:pW #[⟨0,fn,pos,.recvClosed c⟩]:=by
  intro op hop;simp only [List.mem_toArray,List.mem_cons,List.not_mem_nil,or_false] at hop;subst hop;exact ⟨nofun,nofun⟩
 have zN:∀ op∈(#[⟨0,fn,pos,.recvClosed c⟩]:Trace),op.act.touch? = none:=by
  intro op hop;simp only [List.mem_toArray,List.mem_cons,List.not_mem_nil,or_false] at hop;subst hop;rfl
 have g0:=pz (t:=t) (u:=#[⟨0,fn,pos,.recvClosed c⟩]) (j:=0) (op:=⟨0,fn,pos,.recvClosed c⟩) rfl;have e1:HappensBefore (t++#[⟨0,fn,pos,.recvClosed c⟩]) pc (t.size+0):=Be (.closed (c:=c) (by rw [act?_old hpc];exact h.act) (by rw [act?_of g0])) ((heard_old hpc).2 h.hrd) (heard_new hear g0 h.lY);refine RJ (λ said=>zO (h.clean said) zN) (λ i a ha hm=>?_) ((kR hear 0).trans h.lY);rcases h.known i a (old_touch zN ha) hm with x | x
 ·exact x.app _
 ·exact ⟨t.size+0,_,g0,rfl,.inr ((x.1.app _).hb e1)⟩
end
end
section
open Go Go.Conc
open Go.ConcN (sumTo upd sumTo_upd upd_ne upd_same)
def dD (w:World) (c k:Nat):Prop:=w.heap[c]? = some (.chan 0 #[] false k k false)
theorem dD.at {w:World} {c k:Nat} (h:dD w c k) (d:Nat):dD (w.at d) c k:=h
def DW (pk th:Nat) (w w':World) (es:Array Event):Prop:=(∀ e∈es,lX e)/\∀ c,c=pk\/c=th->∀ o,o.isChan=true->w.heap[c]? = some o->w'.heap[c]? = some o
theorem DW.of {pk th:Nat} {w w':World} {es:Array Event} (h:RG w w' es):DW pk th w w' es:=⟨h.1,λ c _ o ho hc=>(h.2 c o ho).1 hc⟩
def dw (pk th:Nat) (z0 z1:Value):Array CommCase:=#[rcase pk z0,rcase th z1]
section
variable (P:Program) (cs:Array CommCase) (A2:Goroutine)
structure iC (a:Goroutine):Prop where
 run:a.status=.running
 fr:a.frame=A2.frame
 cl:a.callers=A2.callers
 dy:a.dying=A2.dying
 Iq:∀ w,stepG P true a w=.comm A2 cs true .select w #[]
def QW:Nat->Goroutine->Prop
 | 0,a=>iC P cs A2 a
 | n+1,a=>iC P cs A2 a\/(a.status=.running/\∃ a',(∀ w,stepG P true a w=.go a' w #[])/\QW n a')
def MQ (n:Nat) (a:Goroutine):Prop:=(∃ k,n=k+1/\QW P cs A2 k a)\/(n=0/\a=parked A2 cs .select)
end
section
variable {P:Program} {pk th:Nat} {z0 z1:Value} {A2:Goroutine}
theorem QW.running {cs:Array CommCase}:∀ {n:Nat} {a:Goroutine},QW P cs A2 n a->a.status=.running
 | 0,_,h=>h.run
 | _+1,_,h=>h.elim (·.run) (·.1)
theorem QW.cases {cs:Array CommCase} {n:Nat} {a:Goroutine} (h:QW P cs A2 n a):iC P cs A2 a\/∃ k a',n=k+1/\(∀ w,stepG P true a w=.go a' w #[])/\QW P cs A2 k a':=by
 cases n with
 | zero=>exact .inl h
 | succ n=>exact h.imp id λ⟨_,a',h1,h2⟩=>⟨n,a',rfl,h1,h2⟩
theorem ry {w:World} {kp kt:Nat} (h1:dD w pk kp) (h2:dD w th kt):(parked A2 (dw pk th z0 z1) .select).again w=parked A2 (dw pk th z0 z1) .select:=by
 refine again_all_open λ cc hcc=>?_
 simp only [dw,List.mem_toArray,List.mem_cons,List.not_mem_nil,or_false] at hcc;rcases hcc with rfl | rfl
 ·exact ⟨_,_,_,_,_,_,_,rfl,h1⟩
 ·exact ⟨_,_,_,_,_,_,_,rfl,h2⟩
theorem qU {x x' g:Goroutine} {w:World} (h:g.again w=g):woken P x x' w g=g:=by
 unfold woken;split
 ·exact h
 ·rfl
theorem MQ.woken {w:World} {kp kt n:Nat} {a x x':Goroutine} (h:MQ P (dw pk th z0 z1) A2 n a) (h1:dD w pk kp) (h2:dD w th kt):Go.Conc.woken P x x' w a=a:=by
 rcases h with ⟨k,_,h⟩ | ⟨_,rfl⟩
 ·exact woken_run h.running
 ·exact qU (ry h1 h2)
theorem MQ.awake {cs:Array CommCase} {n:Nat} {a:Goroutine} (h:MQ P cs A2 n a):Go.Conc.awake a:=by
 rcases h with ⟨k,_,h⟩ | ⟨_,rfl⟩
 ·exact awake_of (.inl h.running)
 ·exact λ t ht=>by cases ht
theorem wI {n d:Nat} {g:Goroutine} (h:QuitsD P n d g) (c:Nat) (b:Bool):offersAt g c b=[]:=by
 refine offersAt_of_not_blocked ?_ c b;rcases h.status with h | h <;> rw [h] <;> exact nofun
theorem rR {Sp:Nat->Prop} {t:Trace} {gs:Array Goroutine} {q:Nat->Nat} (hL:aV Sp P t gs q) {i c:Nat} {b:Bool} (hs:∀ j g,Sp j->j≠i->gs[j]? = some g->offersAt g c b=[]):partners (gs.setIfInBounds i ph) c b=[]:=by
 refine partners_nil λ j g hg=>?_
 rcases getElem?_stand gs i j g hg with ⟨_,rfl⟩ | ⟨hne,hg⟩
 ·rfl
 ·by_cases hj:Sp j
  ·exact hs j g hj hne hg
  ·exact wI (hL.old j g hj hg) c b
def Two (W:Nat) (i:Nat):Prop:=i=0\/i=W
structure xk (P:Program) (W pk th:Nat) (z0 z1:Value) (A2:Goroutine) (kp kt:Nat) (gs:Array Goroutine) (a b:Goroutine) (w:World) (t:Trace) (q:Nat->Nat) (n:Nat):Prop where
 g0:gs[0]? = some a
 gW:gs[W]? = some b
 w0:W≠0
 lv:aV (Two W) P t gs q
 tr:dJ W (λ _=>False) (λ _=>True) t
 op:dD w pk kp
 ot:dD w th kt
 mq:MQ P (dw pk th z0 z1) A2 n a
theorem VJ {e:Event} (h:lX e):zM (λ _=>True) e:=⟨h,λ x _ hm=>by cases hl:x.loc <;> rw [hl] at hm <;> first | trivial | cases hm⟩
theorem DU {W:Nat} {F0 FW:Nat->Prop} {t:Trace} (h:dJ W F0 FW t) {i:Nat} (h0:i≠0) (hW:i≠W) {fn:FuncId} {pos:String} {es:Array Event} (hm:∀ e∈es,Event.mute e=true):dJ W F0 FW (t++MemOp.ofEvents i fn pos es) :=
 h.still (λ op hop=>by obtain ⟨e,he,ea,_⟩:=nT hop;rw [ea];exact touch_mute (hm e he)) ((Deaf_other t h0 _ ofEvents_g).trans h.lY) ((Deaf_other t hW _ ofEvents_g).trans h.uC)
theorem xk.move {W kp kt:Nat} {gs:Array Goroutine} {a b:Goroutine} {w:World} {t:Trace} {q:Nat->Nat} {n:Nat} (h:xk P W pk th z0 z1 A2 kp kt gs a b w t q n) (hb:b.status=.running) (sl:Option (Nat×Nat)) :
 (∃ d sl',stepT P (crowd gs w sl)=runT P (crowd gs (w.at d) sl') W) \/
 ∃ d sl' gs' a' ops q' n',stepT P (crowd gs w sl)=(.next (crowd gs' (w.at d) sl'),ops)/\gs'.size=gs.size/\xk P W pk th z0 z1 A2 kp kt gs' a' b (w.at d) (t++ops) q' n'/\n'+sumTo gs.size q'<n+sumTo gs.size q:=by
 have haw:=h.lv.awake λ i g hi hg=>by
  rcases hi with rfl | rfl
  ·rw [h.g0] at hg;cases hg;exact h.mq.awake
  ·rw [h.gW] at hg;cases hg;exact awake_of (.inl hb)
 obtain ⟨i,g,d,sl',hi,hg,hst⟩:=crowd_pick (P:=P) (w:=w) (sl:=sl) haw ⟨W,b,h.gW,hb⟩;by_cases jR:i=W
 ·subst jR
  exact .inl ⟨d,sl',hst⟩
 refine .inr ?_;have hlt:0<gs.size:=(Array.getElem?_eq_some_iff.1 h.g0).1;by_cases hi0:i=0
 ·subst hi0
  obtain rfl:g=a:=by have:=h.g0;rw [hi] at this;exact Option.some.inj this
  rcases h.mq with ⟨k,rfl,hk⟩ | ⟨_,rfl⟩
  ·rcases hk.cases with hs | ⟨k',a',rfl,hgo,hk'⟩
   ·-- it comes to the select,and waits
    have hno:∀ cc∈dw pk th z0 z1,NoWays (w.at d) (gs.setIfInBounds 0 ph) cc:=by
     have hp:∀ c,partners (gs.setIfInBounds 0 ph) c true=[]:=λ c=>rR h.lv λ j x hj hne hx=>by
      rcases hj with rfl | rfl
      ·exact absurd rfl hne
      ·rw [h.gW] at hx;cases hx
       exact offersAt_of_not_blocked (by rw [hb];exact nofun) c true
     intro cc hcc;simp only [dw,List.mem_toArray,List.mem_cons,List.not_mem_nil,or_false] at hcc;rcases hcc with rfl | rfl
     ·exact ways_recv_none (h.op.at d) (hp pk)
     ·exact ways_recv_none (h.ot.at d) (hp th)
    have hr:=crowd_waits (P:=P) (sl:=sl') (i:=0) hi (show stepG P (0 == 0) g (w.at d)=_ from hs.Iq (w.at d)) hno;refine ⟨d,sl',_,parked A2 (dw pk th z0 z1) .select,_,q,0,hst.trans hr,by simp,?_,by omega⟩;have hops:(MemOp.ofEvents 0 g.frame.fn g.frame.place #[]:Trace) = #[]:=rfl;rw [hops,Array.append_empty];refine ⟨?_,?_,h.w0,⟨λ j x hj hx=>?_,λ j hj=>h.lv.above j (by simpa using hj)⟩,h.tr,h.op.at d,h.ot.at d,.inr ⟨rfl,rfl⟩⟩
    ·rw [Array.getElem?_setIfInBounds_self_of_lt hlt]
    ·rw [Array.getElem?_setIfInBounds_ne (Ne.symm h.w0)];exact h.gW
    ·rw [Array.getElem?_setIfInBounds_ne (λ e=>hj (.inl e.symm))] at hx
     exact h.lv.old j x hj hx
   ·have hr:=runT_crowd_go (P:=P) (sl:=sl') (i:=0) hi (show stepG P (0 == 0) g (w.at d)=_ from hgo (w.at d))
    refine ⟨d,sl',_,a',_,q,k'+1,hst.trans hr,by simp,?_,by omega⟩;refine ⟨iO hlt,by rw [dI (Ne.symm h.w0) h.gW,woken_run hb],h.w0,h.lv.nu (.inl rfl) hlt ofEvents_g,?_,h.op.at d,h.ot.at d,.inl ⟨k',rfl,hk'⟩⟩;have hops:(MemOp.ofEvents 0 g.frame.fn g.frame.place #[]:Trace) = #[]:=rfl;rw [hops,Array.append_empty];exact h.tr
  ·cases hg
 ·have hsp:¬ Two W i:=λ hx=>hx.elim hi0 jR
  obtain ⟨g',es,q',hm,xh,hL',hlt'⟩:=h.lv.slip (w:=w.at d) hi hsp hi0 hg sl';refine ⟨d,sl',_,a,_,q',n,hst.trans xh,by simp,?_,by omega⟩;exact ⟨by rw [dI hi0 h.g0,h.mq.woken (h.op.at d) (h.ot.at d)],by rw [dI jR h.gW,woken_run hb],h.w0,hL',DU h.tr hi0 jR hm,h.op.at d,h.ot.at d,h.mq⟩
theorem work {W kp kt:Nat} {ny:Goroutine->World->Prop} {b:Goroutine} {w:World} (hw:dB P false AtRel (DW pk th) ny b w) :
 ∀ {gs:Array Goroutine} {a:Goroutine} {sl:Option (Nat×Nat)} {t:Trace} {q:Nat->Nat} {n:Nat},xk P W pk th z0 z1 A2 kp kt gs a b w t q n ->
  Reaches P (λ m t'=>∃ gs' a' b' w' sl' q' n',m=crowd gs' w' sl'/\gs'.size=gs.size/\xk P W pk th z0 z1 A2 kp kt gs' a' b' w' t' q' n'/\ny b' w') (crowd gs w sl) t:=by
 refine hw (λ b w=>∀ {gs:Array Goroutine} {a:Goroutine} {sl:Option (Nat×Nat)} {t:Trace} {q:Nat->Nat} {n:Nat},xk P W pk th z0 z1 A2 kp kt gs a b w t q n->Reaches P (λ m t'=>∃ gs' a' b' w' sl' q' n',m=crowd gs' w' sl'/\gs'.size=gs.size/\xk P W pk th z0 z1 A2 kp kt gs' a' b' w' t' q' n'/\ny b' w') (crowd gs w sl) t) ?_ ?_
 ·intro b w hs gs a sl t q n h
  exact .here ⟨gs,a,b,w,sl,q,n,rfl,rfl,h,hs w (atRel_refl w)⟩
 ·intro b w hrun hstep gs a sl t q n
  suffices H:∀ M w gs a sl t q n,n+sumTo gs.size q<=M->(∀ w₁,AtRel w w₁->(stepG P false b w₁).goes λ g' w' es=>DW pk th w₁ w' es/\∀ {gs:Array Goroutine} {a:Goroutine} {sl:Option (Nat×Nat)} {t:Trace} {q:Nat->Nat} {n:Nat},xk P W pk th z0 z1 A2 kp kt gs a g' w' t q n->Reaches P (λ m t'=>∃ gs' a' b' w' sl' q' n',m=crowd gs' w' sl'/\gs'.size=gs.size/\xk P W pk th z0 z1 A2 kp kt gs' a' b' w' t' q' n'/\ny b' w') (crowd gs w' sl) t) ->
   xk P W pk th z0 z1 A2 kp kt gs a b w t q n->Reaches P (λ m t'=>∃ gs' a' b' w' sl' q' n',m=crowd gs' w' sl'/\gs'.size=gs.size/\xk P W pk th z0 z1 A2 kp kt gs' a' b' w' t' q' n'/\ny b' w') (crowd gs w sl) t from H _ w gs a sl t q n (Nat.le_refl _) hstep
  intro M;induction M using Nat.strongRecOn with
  | ind M ih =>
   intro w gs a sl t q n hM hstep h;rcases h.move hrun sl with ⟨d,sl',hst⟩ | ⟨d,sl',gs',a',ops,q',n',hst,hsz,h',hlt⟩
   ·have hs:=hstep (w.at d) ⟨d,rfl⟩
    have hltW:W<gs.size:=(Array.getElem?_eq_some_iff.1 h.gW).1;cases hgo:stepG P false b (w.at d) with
    | go b' w' es =>
     rw [hgo,goes_go] at hs;obtain ⟨⟨hev,hch⟩,hnext⟩:=hs;have hr:=runT_crowd_go (P:=P) (sl:=sl') (i:=W) h.gW (show stepG P (W == 0) b (w.at d)=_ by rw [show (W == 0)=false by simpa using h.w0];exact hgo);refine Reaches.step (hst.trans hr) ?_;have op':dD w' pk kp:=hch pk (.inl rfl) _ rfl (h.op.at d);have ot':dD w' th kt:=hch th (.inr rfl) _ rfl (h.ot.at d);have hA:xk P W pk th z0 z1 A2 kp kt ((gs.map (woken P b b' w')).setIfInBounds W b') a b' w' (t++MemOp.ofEvents W b.frame.fn b.frame.place es) q n :=
      ⟨by rw [dI h.w0 h.g0,h.mq.woken op' ot'],iO hltW,h.w0,h.lv.nu (.inr rfl) hltW ofEvents_g,h.tr.work h.w0 (λ _ hx=>hx.elim) λ e he=>VJ (hev e he),op',ot',h.mq⟩
     have:=hnext (sl:=sl') hA;simpa using this
    | _=>rw [hgo] at hs;exact hs.elim
   ·refine Reaches.step hst ?_
    have:=ih (n'+sumTo gs'.size q') (by rw [hsz];omega) (w.at d) gs' a' sl' _ q' n' (Nat.le_refl _) (λ w₁ h1=>hstep w₁ (atRel_trans _ _ _ ⟨d,rfl⟩ h1)) h';rwa [hsz] at this
end
end
end Go.Proofs.YtignemioillaiabGreat
