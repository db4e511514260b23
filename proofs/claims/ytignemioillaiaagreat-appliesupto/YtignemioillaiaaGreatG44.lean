/- What the law of Applies keeps: the book, the shards of all groups. -/
import Derived.Test.YtignemioillaiaaGreatG43
namespace Go.Proofs.YtignemioillaiaaGreat
set_option maxHeartbeats 8000000
set_option maxRecDepth 100000
section
open Go.RowKit Go.Lib
def qd (vT vM vD vO vI:Value) (L:List ax) (k:Nat):Prop:=vT.ownBlock=some k∨vM.ownBlock=some k∨vD.ownBlock=some k∨vO.ownBlock=some k∨vI.ownBlock=some k∨(∃ v∈QV L,v.ownBlock=some k)∨(∃ v∈RV (mH L),v.ownBlock=some k)∨(∃ v∈DV (mH L),v.ownBlock=some k)
theorem ShM.dX {A:Nat→Prop} {w w':World} {base:Nat} {vT vM vD vO vI:Value} {T:List Row} {M:List Pc} {D:List ak} {L:List ax} {I:List Int} (h:ShM w base vT vM vD vO vI T M D L I) (hc:av A w w') (hA:∀ k,qd vT vM vD vO vI L k→¬ A k):ShM w' base vT vM vD vO vI T M D L I :=
 ⟨dB h.oT hc (fun k hk=>hA k (.inl hk)),dB h.oM hc (fun k hk=>hA k (.inr (.inl hk))),dB h.oD hc (fun k hk=>hA k (.inr (.inr (.inl hk)))),dB h.oO hc (fun k hk=>hA k (.inr (.inr (.inr (.inl hk))))),dB h.oI hc (fun k hk=>hA k (.inr (.inr (.inr (.inr (.inl hk)))))),⟨fun l hl=>dB (h.ln.own l hl) hc (fun k hk=>hA k (.inr (.inr (.inr (.inr (.inr (.inl ⟨_,List.mem_map.2 ⟨l,hl,rfl⟩,hk⟩))))))),h.ln.aq,h.ln.rm.dX hc (fun v hv k hk=>hA k (.inr (.inr (.inr (.inr (.inr (.inr (.inl ⟨v,hv,hk⟩)))))))) (fun v hv k hk=>hA k (.inr (.inr (.inr (.inr (.inr (.inr (.inr ⟨v,hv,hk⟩))))))))⟩,h.aT,h.aD⟩
theorem ShM.lt {w:World} {base:Nat} {vT vM vD vO vI:Value} {T:List Row} {M:List Pc} {D:List ak} {L:List ax} {I:List Int} (h:ShM w base vT vM vD vO vI T M D L I):∀ k,qd vT vM vD vO vI L k→base≤k∧k<w.heap.size:=by
 intro k hk;rcases hk with hk | hk | hk | hk | hk | ⟨v,hv,hk⟩ | ⟨v,hv,hk⟩ | ⟨v,hv,hk⟩
 ·exact h.oT.lt k hk
 ·exact h.oM.lt k hk
 ·exact h.oD.lt k hk
 ·exact h.oO.lt k hk
 ·exact h.oI.lt k hk
 ·exact h.ln.Xg hv k hk
 ·exact h.ln.rm.GH hv k hk
 ·exact h.ln.rm.GI hv k hk
theorem ShM.Vt {A:Nat→Prop} {w:World} {base K n:Nat} {S M:Fin 7→Value} {E:Fin 7→List (Sl×Int)} {vT vM vD vO vI:Value} {T:List Row} {Mp:List Pc} {D:List ak} {L:List ax} {I:List Int} (h:ShM w base vT vM vD vO vI T Mp D L I) (hB:Bk w K n S M E) (hA:∀ k,qd vT vM vD vO vI L k→¬ A k):∀ k,qd vT vM vD vO vI L k→¬ uY K S M A k:=by
 intro k hk;have hA':=hA k hk;rcases hk with hk | hk | hk | hk | hk | ⟨v,hv,hk⟩ | ⟨v,hv,hk⟩ | ⟨v,hv,hk⟩
 ·exact hB.apart (j:=0) (A:=fun b=>b=k∧A b) h.oT (fun b hb e=>by rw [e.1] at *;exact hA' e.2) k hk∘fun e=>e.imp id (fun e=>e.imp (fun e=>⟨rfl,e⟩) id)
 ·exact hB.apart (j:=2) (A:=fun b=>b=k∧A b) h.oM (fun b hb e=>by rw [e.1] at *;exact hA' e.2) k hk∘fun e=>e.imp id (fun e=>e.imp (fun e=>⟨rfl,e⟩) id)
 ·exact hB.apart (j:=1) (A:=fun b=>b=k∧A b) h.oD (fun b hb e=>by rw [e.1] at *;exact hA' e.2) k hk∘fun e=>e.imp id (fun e=>e.imp (fun e=>⟨rfl,e⟩) id)
 ·exact hB.apart (j:=4) (A:=fun b=>b=k∧A b) h.oO (fun b hb e=>by rw [e.1] at *;exact hA' e.2) k hk∘fun e=>e.imp id (fun e=>e.imp (fun e=>⟨rfl,e⟩) id)
 ·exact hB.apart (j:=6) (A:=fun b=>b=k∧A b) h.oI (fun b hb e=>by rw [e.1] at *;exact hA' e.2) k hk∘fun e=>e.imp id (fun e=>e.imp (fun e=>⟨rfl,e⟩) id)
 ·obtain ⟨l,hl,rfl⟩:=List.mem_map.1 hv
  exact hB.apart (j:=5) (A:=fun b=>b=k∧A b) (h.ln.own l hl) (fun b hb e=>by rw [e.1] at *;exact hA' e.2) k hk∘fun e=>e.imp id (fun e=>e.imp (fun e=>⟨rfl,e⟩) id)
 ·obtain ⟨r,hr,rfl⟩:=List.mem_map.1 hv
  exact hB.apart (j:=0) (A:=fun b=>b=k∧A b) (h.ln.rm.rows r hr) (fun b hb e=>by rw [e.1] at *;exact hA' e.2) k hk∘fun e=>e.imp id (fun e=>e.imp (fun e=>⟨rfl,e⟩) id)
 ·obtain ⟨r,hr,rfl⟩:=List.mem_map.1 hv
  exact hB.apart (j:=1) (A:=fun b=>b=k∧A b) (h.ln.rm.bP r hr) (fun b hb e=>by rw [e.1] at *;exact hA' e.2) k hk∘fun e=>e.imp id (fun e=>e.imp (fun e=>⟨rfl,e⟩) id)
theorem CP {A:Nat→Prop} {w w':World} {K d:Nat} {S M S' M':Fin 7→Value} {E E':Fin 7→List (Sl×Int)} {v:Value} {i:Fin 7} (h:jA K A d w w' S M E S' M' E') (hlt:∀ c,v.ownBlock=some c→c<w.heap.size) (hna:∀ c,v.ownBlock=some c→¬ uY K S M A c) (ho:dH v.ownBlock (E i)):dH v.ownBlock (E' i):=by
 cases hv:v.ownBlock with
 | none=>exact fun j s m hi c hc e=>by cases e
 | some c =>
  rw [hv] at ho;exact h.off i c (hlt c hv) (hna c hv) ho
theorem Gr.to {A:Nat→Prop} {w w':World} {base K n d:Nat} {S M S' M':Fin 7→Value} {E E':Fin 7→List (Sl×Int)} {vT vM vD vO vI:Value} {T:List Row} {Mp:List Pc} {D:List ak} {L:List ax} {I:List Int} (ho:Gr vT vM vD vO vI L E) (h:ShM w base vT vM vD vO vI T Mp D L I) (hB:Bk w K n S M E) (hT:jA K A d w w' S M E S' M' E') (hA:∀ k,qd vT vM vD vO vI L k→¬ A k):Gr vT vM vD vO vI L E':=by
 have lt:=fun k hk=>(h.lt k hk).2
 have na:=h.Vt hB hA;refine ⟨CP hT (fun c hc=>lt c (.inl hc)) (fun c hc=>na c (.inl hc)) ho.t,CP hT (fun c hc=>lt c (.inr (.inl hc))) (fun c hc=>na c (.inr (.inl hc))) ho.m,CP hT (fun c hc=>lt c (.inr (.inr (.inl hc)))) (fun c hc=>na c (.inr (.inr (.inl hc)))) ho.d,CP hT (fun c hc=>lt c (.inr (.inr (.inr (.inl hc))))) (fun c hc=>na c (.inr (.inr (.inr (.inl hc))))) ho.o,CP hT (fun c hc=>lt c (.inr (.inr (.inr (.inr (.inl hc)))))) (fun c hc=>na c (.inr (.inr (.inr (.inr (.inl hc)))))) ho.i,fun l hl=>?_,fun l hl r hr=>?_,fun l hl r hr=>?_⟩
 ·have f:∀ c,l.qs.val.ownBlock=some c→qd vT vM vD vO vI L c:=fun c hc=>.inr (.inr (.inr (.inr (.inr (.inl ⟨_,List.mem_map.2 ⟨l,hl,rfl⟩,hc⟩)))))
  exact CP hT (fun c hc=>lt c (f c hc)) (fun c hc=>na c (f c hc)) (ho.q l hl)
 ·have f:∀ c,r.rs.val.ownBlock=some c→qd vT vM vD vO vI L c:=fun c hc=>.inr (.inr (.inr (.inr (.inr (.inr (.inl ⟨_,List.mem_map.2 ⟨r,kY hl hr,rfl⟩,hc⟩))))))
  exact CP hT (fun c hc=>lt c (f c hc)) (fun c hc=>na c (f c hc)) (ho.r l hl r hr)
 ·have f:∀ c,r.ds.val.ownBlock=some c→qd vT vM vD vO vI L c:=fun c hc=>.inr (.inr (.inr (.inr (.inr (.inr (.inr ⟨_,List.mem_map.2 ⟨r,kY hl hr,rfl⟩,hc⟩))))))
  exact CP hT (fun c hc=>lt c (f c hc)) (fun c hc=>na c (f c hc)) (ho.s l hl r hr)
theorem Gr.new {w:World} {base K n:Nat} {S M:Fin 7→Value} {E:Fin 7→List (Sl×Int)} {vT vM vD vO vI:Value} {T:List Row} {Mp:List Pc} {D:List ak} {L:List ax} {I:List Int} {w':World} (h:ShM w' base vT vM vD vO vI T Mp D L I) (hB:Bk w K n S M E) (hb:w.heap.size≤base):Gr vT vM vD vO vI L E:=by
 have off:∀ (i:Fin 7) (v:Value),(∀ c,v.ownBlock=some c→qd vT vM vD vO vI L c)→dH v.ownBlock (E i):=by
  intro i v hf j s m hi c hc e;have h1:=(h.lt c (hf c e)).1;have h2:=(World.ownsRow.lt ((hB.oC i).all j s m hi) c hc).2;omega
 exact ⟨off 0 vT (fun c hc=>.inl hc),off 2 vM (fun c hc=>.inr (.inl hc)),off 1 vD (fun c hc=>.inr (.inr (.inl hc))),off 4 vO (fun c hc=>.inr (.inr (.inr (.inl hc)))),off 6 vI (fun c hc=>.inr (.inr (.inr (.inr (.inl hc))))),fun l hl=>off 5 _ (fun c hc=>.inr (.inr (.inr (.inr (.inr (.inl ⟨_,List.mem_map.2 ⟨l,hl,rfl⟩,hc⟩)))))),fun l hl r hr=>off 0 _ (fun c hc=>.inr (.inr (.inr (.inr (.inr (.inr (.inl ⟨_,List.mem_map.2 ⟨r,kY hl hr,rfl⟩,hc⟩))))))),fun l hl r hr=>off 1 _ (fun c hc=>.inr (.inr (.inr (.inr (.inr (.inr (.inr ⟨_,List.mem_map.2 ⟨r,kY hl hr,rfl⟩,hc⟩)))))))⟩
structure fA where
 (vT vM vD vO vI:Value)
 (sT sM sD sO sI:Sl)
 (L L':List ax)
 s:St
def fA.ac (x:fA):List Value:=[.int .u8 x.s.g,.int .u8 x.s.n,x.vT,x.vM,x.vD,x.vO,x.vI]
def fA.bc (x:fA):List Value:=[.int .u8 x.s.g,.int .u8 x.s.n,x.sT.val,x.sM.val,x.sD.val,x.sO.val,x.sI.val]
def fA.foot (x:fA) (k:Nat):Prop:=qd x.vT x.vM x.vD x.vO x.vI x.L k
structure qQ (P:Nat→Prop) (w:World) (N:Nat) (E:Fin 7→List (Sl×Int)) (x:fA):Prop where
 a:ShM w 0 x.vT x.vM x.vD x.vO x.vI x.s.T x.s.M x.s.D x.L x.s.I
 b:ry P w x.sT x.sM x.sD x.sO x.sI x.s.T x.s.M x.s.D x.L' x.s.I
 ca:x.L.map ax.core=x.s.O
 cb:x.L'.map ax.core=x.s.O
 ok:ku x.s
 q4:Lp x.s
 sm:nL N x.s
 off:Gr x.vT x.vM x.vD x.vO x.vI x.L E
 pa:∀ k,x.foot k→P k
structure oW (P:Nat→Prop) (B0:Nat) (w:World) (N n K:Nat) (S M:Fin 7→Value) (E:Fin 7→List (Sl×Int)) (va vb:Value) (G:List fA):Prop where
 bk:Bk w K n S M E
 pk:∀ k,uY K S M (fun _=>False) k→P k
 lt:∀ k,P k→B0≤k∧k<w.heap.size
 oa:w.ownsRow B0 31 7 va G.length (G.map fA.ac).flatten
 ob:w.ownsRow B0 31 7 vb G.length (G.map fA.bc).flatten
 ab:gV va vb
 pa:∀ k,va.ownBlock=some k→P k
 pb:∀ k,vb.ownBlock=some k→P k
 g:∀ x∈G,qQ P w N E x
 dj:∀ (i j:Nat) (x y:fA),i≠j→G[i]? = some x→G[j]? = some y→∀ k,x.foot k→¬ y.foot k
section
variable {P:Nat→Prop} {B0:Nat} {w w':World} {N n K:Nat} {S M:Fin 7→Value} {E:Fin 7→List (Sl×Int)} {va vb:Value} {G:List fA}
theorem qQ.later {x:fA} (h:qQ P w N E x) (hb:Below w.heap.size w w'):qQ P w' N E x:=⟨h.a.later hb,h.b.later hb,h.ca,h.cb,h.ok,h.q4,h.sm,h.off,h.pa⟩
theorem oW.later (h:oW P B0 w N n K S M E va vb G) (hb:Below w.heap.size w w'):oW P B0 w' N n K S M E va vb G :=
 ⟨h.bk.later hb,h.pk,fun k hk=>⟨(h.lt k hk).1,Nat.lt_of_lt_of_le (h.lt k hk).2 hb.size⟩,ay h.oa hb,ay h.ob hb,h.ab,h.pa,h.pb,fun x hx=>(h.g x hx).later hb,h.dj⟩
def p9 (P:Nat→Prop) (w w':World) (k:Nat):Prop:=P k∨(w.heap.size≤k∧k<w'.heap.size)
theorem oW.grow (h:oW P B0 w N n K S M E va vb G) (hb:Below w.heap.size w w') (hB:B0≤w.heap.size):oW (p9 P w w') B0 w' N n K S M E va vb G:=by
 refine ⟨h.bk.later hb,fun k hk=>.inl (h.pk k hk),fun k hk=>?_,ay h.oa hb,ay h.ob hb,h.ab,fun k hk=>.inl (h.pa k hk),fun k hk=>.inl (h.pb k hk),fun x hx=>?_,h.dj⟩
 ·rcases hk with hk | hk
  ·exact ⟨(h.lt k hk).1,Nat.lt_of_lt_of_le (h.lt k hk).2 hb.size⟩
  ·exact ⟨by omega,hk.2⟩
 ·have hx:=h.g x hx
  exact ⟨hx.a.later hb,(hx.b.to (P':=p9 P w w') (fun k hk=>hk.imp id (fun e=>e.1))).later hb,hx.ca,hx.cb,hx.ok,hx.q4,hx.sm,hx.off,fun k hk=>.inl (hx.pa k hk)⟩
theorem oW.book {A:Nat→Prop} {d n':Nat} {S' M':Fin 7→Value} {E':Fin 7→List (Sl×Int)} (h:oW P B0 w N n K S M E va vb G) (hB':Bk w' K n' S' M' E') (hT:jA K A d w w' S M E S' M' E') (hA:∀ k,k<w.heap.size→A k→P k) (Ui:∀ x∈G,∀ k,x.foot k→¬ A k) (hAa:∀ k,va.ownBlock=some k→¬ A k) (hAb:∀ k,vb.ownBlock=some k→¬ A k) (hB:B0≤w.heap.size):oW (p9 P w w') B0 w' N n' K S' M' E' va vb G:=by
 have sub:∀ k,k<w.heap.size→uY K S M A k→P k:=by
  rintro k hk (e | e | e)
  ·exact h.pk k (.inl e)
  ·exact hA k hk e
  ·exact h.pk k (.inr (.inr e))
 have hc:av P w w':=hT.fr.dX.mono (fun k hk e=>sub k hk e);have arr:∀ {v:Value} {m:Nat} {xs:List Value},w.ownsRow B0 31 7 v m xs→(∀ k,v.ownBlock=some k→¬ A k)→w'.ownsRow B0 31 7 v m xs:=fun hv hna=>Ae hv hT.fr (fun k hk e=>by
  obtain ⟨cur,dW⟩:=yG hv hk;exact h.bk.box dW (hna k hk) e)
 refine ⟨hB',fun k hk=>?_,fun k hk=>?_,arr h.oa hAa,arr h.ob hAb,h.ab,fun k hk=>.inl (h.pa k hk),fun k hk=>.inl (h.pb k hk),fun x hx=>?_,h.dj⟩
 ·rcases hk with hk | hk | ⟨i,hk⟩
  ·exact .inl (h.pk k (.inl hk))
  ·exact hk.elim
  ·have hlt:k<w'.heap.size:=by
    rcases hk with hk | hk
    ·exact ((hB'.oC i).own.lt k hk.symm).2
    ·exact ((hB'.oC i).marks.lt k hk.symm).2
   rcases Nat.lt_or_ge k w.heap.size with hl | hl
   ·rcases hT.org i k (hk.imp Eq.symm Eq.symm) with h1 | h1
    ·exact .inl (sub k hl h1)
    ·omega
   ·exact .inr ⟨hl,hlt⟩
 ·rcases hk with hk | hk
  ·exact ⟨(h.lt k hk).1,Nat.lt_of_lt_of_le (h.lt k hk).2 hT.fr.size⟩
  ·exact ⟨by omega,hk.2⟩
 ·have hg:=h.g x hx
  have hna:=hg.a.Vt h.bk (Ui x hx);exact ⟨hg.a.dX hT.fr.dX hna,((hg.b.to (P':=p9 P w w') (fun k hk=>hk.imp id (fun e=>e.1))).dV (fun k hk=>.inl hk) hc),hg.ca,hg.cb,hg.ok,hg.q4,hg.sm,hg.off.to hg.a h.bk hT (Ui x hx),fun k hk=>.inl (hg.pa k hk)⟩
end
theorem aag (x:Int):0≤bits BinOp.and IntKind.i64 x 3∧bits BinOp.and IntKind.i64 x 3≤3:=by
 have hle:(BitVec.ofInt 64 x &&& BitVec.ofInt 64 3).toNat≤3:=by
  rw [BitVec.toNat_and];exact Nat.le_trans Nat.and_le_right (by decide)
 have e:bits BinOp.and IntKind.i64 x 3=IntKind.i64.wrap ((BitVec.ofInt 64 x &&& BitVec.ofInt 64 3).toNat:Nat):=rfl;have e2:IntKind.i64.wrap ((BitVec.ofInt 64 x &&& BitVec.ofInt 64 3).toNat:Nat)=((BitVec.ofInt 64 x &&& BitVec.ofInt 64 3).toNat:Int):=by
  generalize (BitVec.ofInt 64 x &&& BitVec.ofInt 64 3).toNat=m at hle;have:m=0∨m=1∨m=2∨m=3:=by omega
  rcases this with rfl | rfl | rfl | rfl <;> decide
 rw [e,e2];omega
theorem Rm {α:Type} {f:α→List Value} (hf:∀ y,(f y).length=7) {x:α}:∀ {l:List α} {i:Nat},i<l.length→((l.set i x).map f).flatten=((l.map f).flatten).take (i*7)++f x++((l.map f).flatten).drop (i*7+7)
 | [],i,h=>absurd h (Nat.not_lt_zero _)
 | y::l,0,_=>by
  simp only [List.set_cons_zero,List.map_cons,List.flatten_cons,Nat.zero_mul,List.take_zero,List.nil_append,Nat.zero_add];rw [← hf y,List.drop_left]
 | y::l,i+1,h=>by
  have ih:=Rm hf (x:=x) (l:=l) (i:=i) (by simpa using h);simp only [List.set_cons_succ,List.map_cons,List.flatten_cons];have e1:(i+1)*7=(f y).length+i*7:=by rw [hf y];omega
  have e2:(i+1)*7+7=(f y).length+(i*7+7):=by rw [hf y];omega
  rw [e2,e1,List.take_length_add_append,List.drop_length_add_append,ih];simp
theorem aah {cur cs:List Value} {o m:Nat} (hc:o+cs.length≤m) (hm:m≤cur.length):(cur.take o++cs++cur.drop (o+cs.length)).take m=(cur.take m).take o++cs++(cur.take m).drop (o+cs.length)∧(cur.take o++cs++cur.drop (o+cs.length)).length=cur.length:=by
 constructor
 ·have h1:(cur.take o++cs).length=o+cs.length:=by rw [List.length_append,List.length_take];omega
  have h2:m=(cur.take o++cs).length+(m - (o+cs.length)):=by rw [h1];omega
  conv=>lhs;rw [h2]
  rw [List.take_length_add_append,List.take_take,List.drop_take,Nat.min_eq_left (by omega)]
 ·simp only [List.length_append,List.length_take,List.length_drop];omega
theorem Uj {α:Type} {f:α→List Value} (hf:∀ y,(f y).length=7) {w w':World} {base g cap i:Nat} {e:TypeId} {l:List α} {cur:List Value} {x:α} (h:w.ownsRow base e 7 (.slice (some ⟨g,0,none⟩) l.length cap) l.length (l.map f).flatten) (hg:w.heap[g]? = some (.cells cur.toArray e)) (hi:i<l.length)
 (hw:w'.heap[g]? = some (.cells (cur.take (i*7)++f x++cur.drop (i*7+7)).toArray e)):w'.ownsRow base e 7 (.slice (some ⟨g,0,none⟩) l.length cap) l.length ((l.set i x).map f).flatten:=by
 obtain ⟨g',cap',cur',hv,_,hg',hnl,_,_,_,htk,_,hput⟩:=kS h (by omega);simp only [Value.slice.injEq,Option.some.injEq,Addr.mk.injEq] at hv;obtain ⟨⟨rfl,_⟩,_,rfl⟩:=hv;rw [hg] at hg';have hcc:cur=cur':=by
  have:=Option.some.inj hg';simp only [Obj.cells.injEq] at this;have h1:=congrArg Array.toList this.1;simpa using h1
 subst hcc;have hfx:=hf x;have ht:=aah (cur:=cur) (cs:=f x) (o:=i*7) (m:=l.length*7) (by rw [hfx];omega) hnl;rw [hfx,htk] at ht;have:=hput w' _ ht.2 hw;rw [ht.1] at this;rw [Rm hf hi];exact this
theorem OX (x:fA):x.ac.length=7:=rfl
theorem Uk (x:fA):x.bc.length=7:=rfl
theorem ShM.aai {w:World} {base b:Nat} {cur:Array Value} {fz:Nat×Nat} {vT vM vD vO vI:Value} {T:List Row} {M:List Pc} {D:List ak} {L:List ax} {I:List Int} (h:ShM w base vT vM vD vO vI T M D L I) (hb:w.heap[b]? = some (.cells cur 31 fz)):∀ k,qd vT vM vD vO vI L k→k≠b:=by
 rintro k hk rfl;rcases hk with hk | hk | hk | hk | hk | ⟨v,hv,hk⟩ | ⟨v,hv,hk⟩ | ⟨v,hv,hk⟩
 ·exact bf h.oT hb (by decide) hk
 ·exact bf h.oM hb (by decide) hk
 ·exact bf h.oD hb (by decide) hk
 ·exact bf h.oO hb (by decide) hk
 ·exact bf h.oI hb (by decide) hk
 ·obtain ⟨l,hl,rfl⟩:=List.mem_map.1 hv
  exact bf (h.ln.own l hl) hb (by decide) hk
 ·obtain ⟨r,hr,rfl⟩:=List.mem_map.1 hv
  exact bf (h.ln.rm.rows r hr) hb (by decide) hk
 ·obtain ⟨r,hr,rfl⟩:=List.mem_map.1 hv
  exact bf (h.ln.rm.bP r hr) hb (by decide) hk
section
variable {P A:Nat→Prop} {B0:Nat} {w w1 w':World} {N n K:Nat} {S M:Fin 7→Value} {E:Fin 7→List (Sl×Int)} {va vb:Value} {G:List fA}
theorem Bk.aiN (h:Bk w K n S M E) (hc:av A w w') (hA:∀ k,k<w.heap.size→A k→∃ cur fz,w.heap[k]? = some (.cells cur 31 fz)):Bk w' K n S M E:=by
 have Rj:∀ i:Fin 7,He i≠31:=by decide
 have ten:∀ i:Fin 7,F3 i≠31:=by decide
 have na:∀ {b:Nat} {e:TypeId} {size m:Nat} {v:Value} {xs:List Value},w.ownsRow b e size v m xs→e≠31→∀ k,v.ownBlock=some k→¬ A k:=by
  intro b e size m v xs hv hne k hk hAk;obtain ⟨cur,fz,dW⟩:=hA k (hv.lt k hk).2 hAk;exact bf hv dW hne hk
 have fr:Fr A w w':=⟨hc.os,hc.tape,hc.output,hc.size,hc.block⟩;refine ⟨nQ h.blk hc (fun hAk=>?_),fun i=>(h.oC i).fr fr (na (h.oC i).own (Rj i)) (na (h.oC i).marks (by decide)) (fun j s m hj=>na ((h.oC i).all j s m hj) (ten i)),h.mm,h.Rh⟩;obtain ⟨cur,fz,dW⟩:=hA K (df h.blk) hAk;rw [h.blk] at dW;injection dW with dW;injection dW with _ dW _;exact absurd dW (by decide)
theorem qQ.dX {x:fA} (h:qQ P w N E x) (hc:av A w w') (hA:∀ k,A k→P k) (hF:∀ k,x.foot k→¬ A k):qQ P w' N E x :=
 ⟨h.a.dX hc hF,h.b.dV hA hc,h.ca,h.cb,h.ok,h.q4,h.sm,h.off,h.pa⟩
theorem oW.set {i:Nat} {x:fA} (h:oW P B0 w N n K S M E va vb G) (hx:qQ P w N E x) (hd:∀ (j:Nat) (y:fA),j≠i→G[j]? = some y→∀ k,x.foot k→¬ y.foot k) (hc:av (fun k=>some k=va.ownBlock∨some k=vb.ownBlock) w w')
 (ha:w'.ownsRow B0 31 7 va G.length ((G.set i x).map fA.ac).flatten) (hb:w'.ownsRow B0 31 7 vb G.length ((G.set i x).map fA.bc).flatten):oW P B0 w' N n K S M E va vb (G.set i x):=by
 have Wy:∀ k,k<w.heap.size→(some k=va.ownBlock∨some k=vb.ownBlock)→∃ cur fz,w.heap[k]? = some (.cells cur 31 fz):=by
  rintro k _ (e | e)
  ·obtain ⟨cur,dW⟩:=yG h.oa e.symm
   exact ⟨cur,_,dW⟩
  ·obtain ⟨cur,dW⟩:=yG h.ob e.symm
   exact ⟨cur,_,dW⟩
 have Fv:∀ k,(some k=va.ownBlock∨some k=vb.ownBlock)→P k:=by
  rintro k (e | e)
  ·exact h.pa k e.symm
  ·exact h.pb k e.symm
 have hF:∀ y:fA,qQ P w N E y→∀ k,y.foot k→¬ (some k=va.ownBlock∨some k=vb.ownBlock):=by
  intro y hy k hk e;obtain ⟨cur,fz,dW⟩:=Wy k (hy.a.lt k hk).2 e;exact hy.a.aai dW k hk rfl
 refine ⟨h.bk.aiN hc Wy,h.pk,fun k hk=>⟨(h.lt k hk).1,Nat.lt_of_lt_of_le (h.lt k hk).2 hc.size⟩,by rw [List.length_set];exact ha,by rw [List.length_set];exact hb,h.ab,h.pa,h.pb,fun y hy=>?_,?_⟩
 ·rcases List.mem_or_eq_of_mem_set hy with hy | rfl
  ·exact (h.g y hy).dX hc Fv (hF y (h.g y hy))
  ·exact hx.dX hc Fv (hF _ hx)
 ·intro j j' y y' hne hy hy' k hk hk'
  rw [List.getElem?_set] at hy hy';split at hy
  ·split at hy
   ·obtain rfl:=Option.some.inj hy
    rw [if_neg (by omega)] at hy';exact hd j' y' (by omega) hy' k hk hk'
   ·cases hy
  ·split at hy'
   ·split at hy'
    ·obtain rfl:=Option.some.inj hy'
     exact hd j y (by omega) hy k hk' hk
    ·cases hy'
   ·exact h.dj j j' y y' hne hy hy' k hk hk'
theorem qQ.mono {x:fA} {N':Nat} (h:qQ P w N E x) (hN:N≤N'):qQ P w N' E x:=⟨h.a,h.b,h.ca,h.cb,h.ok,h.q4,h.sm.mono hN,h.off,h.pa⟩
theorem oW.mono {N':Nat} (h:oW P B0 w N n K S M E va vb G) (hN:N≤N'):oW P B0 w N' n K S M E va vb G:=⟨h.bk,h.pk,h.lt,h.oa,h.ob,h.ab,h.pa,h.pb,fun x hx=>(h.g x hx).mono hN,h.dj⟩
theorem BU {x:fA} (h:qQ P w N E x):Calls Tryz.prog 10 #[.agg x.ac.toArray,.agg x.bc.toArray] w fun e w'=>e=.returned (.bool true)∧Below w.heap.size w w':=by
 obtain ⟨tT,tM,tD,tO,tI,e1,e2,e3,e4,e5,hrd⟩:=h.a.rd;have hb:=h.b;have hco:x.L'.map ax.core=x.L.map ax.core:=h.cb.trans h.ca.symm;unfold fA.ac fA.bc;rw [e1,e2,e3,e4,e5];exact Rv (fun _=>False) P w x.s.g x.s.n tT.a tT.len tT.cap tM.a tM.len tM.cap tD.a tD.len tD.cap tO.a tO.len tO.cap tI.a tI.len tI.cap x.sT.a x.sT.len x.sT.cap x.sM.a x.sM.len x.sM.cap x.sD.a x.sD.len x.sD.cap x.sO.a x.sO.len x.sO.cap x.sI.a x.sI.len x.sI.cap x.s.T x.s.M x.s.D x.L x.L' x.s.I hrd hb hco
end
structure wY (P:Nat→Prop) (B0:Nat) (w:World) (va vb:Value) (G:List fA):Prop where
 lt:∀ k,P k→B0≤k∧k<w.heap.size
 oa:w.ownsRow B0 31 7 va G.length (G.map fA.ac).flatten
 ob:w.ownsRow B0 31 7 vb G.length (G.map fA.bc).flatten
 ab:gV va vb
 pa:∀ k,va.ownBlock=some k→P k
 pb:∀ k,vb.ownBlock=some k→P k
 g:∀ x∈G,qQ P w 1 (fun _=>[]) x
 dj:∀ (i j:Nat) (x y:fA),i≠j→G[i]? = some x→G[j]? = some y→∀ k,x.foot k→¬ y.foot k
section
variable {P:Nat→Prop} {B0:Nat} {w w':World} {va vb Fw Lr:Value} {G:List fA}
theorem wY.nil (w:World):wY (fun _=>False) w.heap.size w (.slice none 0 0) (.slice none 0 0) [] :=
 ⟨fun _ h=>h.elim,World.ownsRow_nil _ _ _ _,World.ownsRow_nil _ _ _ _,.inl rfl,(fun k hk=>by cases hk),(fun k hk=>by cases hk),fun x hx=>absurd hx List.not_mem_nil,fun i j x y _ hx=>by simp at hx⟩
theorem wY.later (h:wY P B0 w va vb G) (hb:Below w.heap.size w w'):wY P B0 w' va vb G :=
 ⟨fun k hk=>⟨(h.lt k hk).1,Nat.lt_of_lt_of_le (h.lt k hk).2 hb.size⟩,ay h.oa hb,ay h.ob hb,h.ab,h.pa,h.pb,fun x hx=>(h.g x hx).later hb,h.dj⟩
theorem qQ.to {N:Nat} {E:Fin 7→List (Sl×Int)} {P':Nat→Prop} {x:fA} (h:qQ P w N E x) (h1:∀ k,P' k→P k∨w.heap.size≤k) (h2:∀ k,P k→P' k):qQ P' w N E x:=⟨h.a,h.b.to h1,h.ca,h.cb,h.ok,h.q4,h.sm,h.off,fun k hk=>h2 k (h.pa k hk)⟩
theorem wY.grow (h:wY P B0 w va vb G) (hb:Below w.heap.size w w') (hB:B0≤w.heap.size):wY (p9 P w w') B0 w' va vb G:=by
 refine ⟨fun k hk=>?_,ay h.oa hb,ay h.ob hb,h.ab,fun k hk=>.inl (h.pa k hk),fun k hk=>.inl (h.pb k hk),fun x hx=>((h.g x hx).to (fun k hk=>hk.imp id (fun e=>e.1)) (fun k hk=>.inl hk)).later hb,h.dj⟩;rcases hk with hk | hk
 ·exact ⟨(h.lt k hk).1,Nat.lt_of_lt_of_le (h.lt k hk).2 hb.size⟩
 ·exact ⟨by omega,hk.2⟩
theorem wY.push {x:fA} (h:wY P B0 w va vb G) (hx:qQ P w 1 (fun _=>[]) x) (hd:∀ y∈G,∀ k,x.foot k→¬ y.foot k) (hc:av (fun k=>some k=va.ownBlock∨some k=vb.ownBlock) w w') (hB:B0≤w.heap.size)
 (ha:w'.ownsRow B0 31 7 Fw (G.length+1) ((G++[x]).map fA.ac).flatten) (hb:w'.ownsRow B0 31 7 Lr (G.length+1) ((G++[x]).map fA.bc).flatten) (hab:gV Fw Lr) (qa:∀ k,Fw.ownBlock=some k→some k=va.ownBlock∨w.heap.size≤k) (qb:∀ k,Lr.ownBlock=some k→some k=vb.ownBlock∨w.heap.size≤k):wY (p9 P w w') B0 w' Fw Lr (G++[x]):=by
 have Wy:∀ k,(some k=va.ownBlock∨some k=vb.ownBlock)→∃ cur fz,w.heap[k]? = some (.cells cur 31 fz):=by
  rintro k (e | e)
  ·obtain ⟨cur,dW⟩:=yG h.oa e.symm
   exact ⟨cur,_,dW⟩
  ·obtain ⟨cur,dW⟩:=yG h.ob e.symm
   exact ⟨cur,_,dW⟩
 have Fv:∀ k,(some k=va.ownBlock∨some k=vb.ownBlock)→P k:=by
  rintro k (e | e)
  ·exact h.pa k e.symm
  ·exact h.pb k e.symm
 have hF:∀ y:fA,qQ P w 1 (fun _=>[]) y→qQ (p9 P w w') w' 1 (fun _=>[]) y:=by
  intro y hy;refine qQ.dX (P:=p9 P w w') (hy.to (fun k hk=>hk.imp id (fun e=>e.1)) (fun k hk=>.inl hk)) hc (fun k hk=>.inl (Fv k hk)) (fun k hk e=>?_);obtain ⟨cur,fz,dW⟩:=Wy k e;exact hy.a.aai dW k hk rfl
 refine ⟨fun k hk=>?_,by rw [List.length_append];exact ha,by rw [List.length_append];exact hb,hab,fun k hk=>?_,fun k hk=>?_,fun y hy=>?_,?_⟩
 ·rcases hk with hk | hk
  ·exact ⟨(h.lt k hk).1,Nat.lt_of_lt_of_le (h.lt k hk).2 hc.size⟩
  ·exact ⟨by omega,hk.2⟩
 ·rcases qa k hk with e | e
  ·exact .inl (h.pa k e.symm)
  ·exact .inr ⟨e,(ha.lt k hk).2⟩
 ·rcases qb k hk with e | e
  ·exact .inl (h.pb k e.symm)
  ·exact .inr ⟨e,(hb.lt k hk).2⟩
 ·rcases List.mem_append.1 hy with hy | hy
  ·exact hF y (h.g y hy)
  ·rw [List.mem_singleton.1 hy];exact hF x hx
 ·intro i j y z hne hy hz k hk hk'
  have last:∀ {i:Nat} {y:fA},(G++[x])[i]? = some y→G[i]? = some y∨(i=G.length∧y=x):=by
   intro i y hy;rcases Nat.lt_or_ge i G.length with hl | hl
   ·rw [List.getElem?_append_left hl] at hy;exact .inl hy
   ·rw [List.getElem?_append_right hl] at hy
    have hi:i - G.length=0:=by
     have:=(mV hy);simp at this;omega
    rw [hi] at hy;exact .inr ⟨by omega,by simpa using hy.symm⟩
  rcases last hy with hy1 | ⟨hi,e1⟩ <;> rcases last hz with hz1 | ⟨hj,e2⟩
  ·exact h.dj i j y z hne hy1 hz1 k hk hk'
  ·subst e2;exact hd y (List.mem_of_getElem? hy1) k hk' hk
  ·subst e1;exact hd z (List.mem_of_getElem? hz1) k hk hk'
  ·omega
theorem acg (w:World) (ts te:TypeId) (size:Nat) (mk:Int→List Value):rz w ts te size mk (.slice none 0 0) (.slice none 0 0) [] :=
 ⟨World.ownsRow_nil _ _ _ _,World.ownsRow_nil _ _ _ _,fun i s m h=>by simp at h,fun i s m h=>by simp at h⟩
theorem wY.start {K:Nat} (h:wY P B0 w va vb G) (hb:Below w.heap.size w w') (hB:B0≤w.heap.size) (hK:w.heap.size≤K) (hblk:w'.heap[K]? = some (.cells (Dx 0 (fun _=>.slice none 0 0) (fun _=>.slice none 0 0)) 46)):oW (p9 P w w') B0 w' 1 0 K (fun _=>.slice none 0 0) (fun _=>.slice none 0 0) (fun _=>[]) va vb G:=by
 have hg:=h.grow hb hB;refine ⟨⟨hblk,fun i=>acg _ _ _ _ _,fun i j _=>.inl rfl,rfl⟩,fun k hk=>?_,hg.lt,hg.oa,hg.ob,hg.ab,hg.pa,hg.pb,hg.g,hg.dj⟩;rcases hk with rfl | hk | ⟨i,hk | hk⟩
 ·exact .inr ⟨hK,(df hblk)⟩
 ·exact hk.elim
 ·cases hk
 ·cases hk
end
structure Kg (P:Nat→Prop) (B0:Nat) (w:World) (N n K:Nat) (S M:Fin 7→Value) (E:Fin 7→List (Sl×Int)) (va vb:Value) (G:List fA) (i:Nat):Prop where
 bk:Bk w K n S M E
 pk:∀ k,uY K S M (fun _=>False) k→P k
 lt:∀ k,P k→B0≤k
 oa:w.ownsRow B0 31 7 va G.length (G.map fA.ac).flatten
 ob:w.ownsRow B0 31 7 vb G.length (G.map fA.bc).flatten
 g:∀ (j:Nat) (x:fA),i≤j→G[j]? = some x→qQ P w N E x
 dj:∀ (i j:Nat) (x y:fA),i≠j→G[i]? = some x→G[j]? = some y→∀ k,x.foot k→¬ y.foot k
section
variable {P:Nat→Prop} {B0:Nat} {w w':World} {N n K:Nat} {S M:Fin 7→Value} {E:Fin 7→List (Sl×Int)} {va vb:Value} {G:List fA}
theorem oW.last (h:oW P B0 w N n K S M E va vb G):Kg P B0 w N n K S M E va vb G 0:=⟨h.bk,h.pk,fun k hk=>(h.lt k hk).1,h.oa,h.ob,fun _ _ _ hx=>h.g _ (List.mem_of_getElem? hx),h.dj⟩
theorem Kg.later {i:Nat} (h:Kg P B0 w N n K S M E va vb G i) (hb:Below w.heap.size w w'):Kg P B0 w' N n K S M E va vb G i:=⟨h.bk.later hb,h.pk,h.lt,ay h.oa hb,ay h.ob hb,fun j x hj hx=>(h.g j x hj hx).later hb,h.dj⟩
theorem Kg.book {i d n':Nat} {x:fA} {S' M':Fin 7→Value} {E':Fin 7→List (Sl×Int)} (h:Kg P B0 w N n K S M E va vb G i) (hx:G[i]? = some x) (hB':Bk w' K n' S' M' E') (hT:jA K (nJ K x.vT x.vM x.vD x.vO x.vI x.L) d w w' S M E S' M' E') (hB:B0≤w.heap.size):Kg (p9 P w w') B0 w' N n' K S' M' E' va vb G (i+1)∧Below B0 w w':=by
 have gx:=h.g i x (Nat.le_refl _) hx;have hKP:P K:=h.pk K (.inl rfl);have hA:∀ k,nJ K x.vT x.vM x.vD x.vO x.vI x.L k→P k:=by
  rintro k (e | e)
  ·exact e ▸ hKP
  ·exact gx.pa k e
 have sub:∀ k,uY K S M (nJ K x.vT x.vM x.vD x.vO x.vI x.L) k→P k:=by
  rintro k (e | e | e)
  ·exact h.pk k (.inl e)
  ·exact hA k e
  ·exact h.pk k (.inr (.inr e))
 have hc:av P w w':=hT.fr.dX.mono (fun k _ e=>sub k e);have box:∀ {k:Nat} {cur:Array Value} {fz:Nat×Nat},w.heap[k]? = some (.cells cur 31 fz)→¬ nJ K x.vT x.vM x.vD x.vO x.vI x.L k:=by
  rintro k cur fz hk (e | e)
  ·exact h.bk.box (A:=fun _=>False) hk id (.inl e)
  ·exact gx.a.aai hk k e rfl
 have arr:∀ {v:Value} {m:Nat} {xs:List Value},w.ownsRow B0 31 7 v m xs→w'.ownsRow B0 31 7 v m xs:=fun hv=>Ae hv hT.fr (fun k hk e=>by
  obtain ⟨cur,dW⟩:=yG hv hk;exact h.bk.box dW (box dW) e)
 refine ⟨⟨hB',fun k hk=>?_,fun k hk=>?_,arr h.oa,arr h.ob,fun j y hj hy=>?_,h.dj⟩,hc.below (fun k hk=>⟨by omega,fun e=>by have:=h.lt k e;omega⟩)⟩
 ·rcases hk with hk | hk | ⟨i,hk⟩
  ·exact .inl (h.pk k (.inl hk))
  ·exact hk.elim
  ·have hlt:k<w'.heap.size:=by
    rcases hk with hk | hk
    ·exact ((hB'.oC i).own.lt k hk.symm).2
    ·exact ((hB'.oC i).marks.lt k hk.symm).2
   rcases Nat.lt_or_ge k w.heap.size with hl | hl
   ·rcases hT.org i k (hk.imp Eq.symm Eq.symm) with h1 | h1
    ·exact .inl (sub k h1)
    ·omega
   ·exact .inr ⟨hl,hlt⟩
 ·rcases hk with hk | hk
  ·exact h.lt k hk
  ·omega
 ·have hg:=h.g j y (by omega) hy
  have Ui:∀ k,y.foot k→¬ nJ K x.vT x.vM x.vD x.vO x.vI x.L k:=by
   rintro k hk (e | e)
   ·exact hg.a.Vt h.bk (A:=fun _=>False) (fun _ _=>id) k hk (.inl e)
   ·exact h.dj j i y x (by omega) hy hx k hk e
  have hna:=hg.a.Vt h.bk Ui;exact ⟨hg.a.dX hT.fr.dX hna,((hg.b.to (P':=p9 P w w') (fun k hk=>hk.imp id (fun e=>e.1))).dV (fun k hk=>.inl hk) hc),hg.ca,hg.cb,hg.ok,hg.q4,hg.sm,hg.off.to hg.a h.bk hT Ui,fun k hk=>.inl (hg.pa k hk)⟩
end
section
variable {P:Nat→Prop} {w:World} {N:Nat} {E:Fin 7→List (Sl×Int)} {x:fA}
theorem Ul (h:qQ P w N E x):x.L.length≤4:=by
 have h1:=congrArg List.length h.ca;have h2:=h.ok.ol;have h3:=h.ok.n4;rw [List.length_map] at h1;omega
theorem Um (h:qQ P w N E x):∀ l∈x.L,l.q.length≤4:=by
 intro l hl;have h1:=h.q4 l.core (by rw [← h.ca];exact List.mem_map.2 ⟨l,hl,rfl⟩);simpa [ax.core] using h1
theorem Vu (h:qQ P w N E x) (hN:N≤490000):x.s.T.length≤1000000:=by have:=h.sm.t;omega
theorem Vv (h:qQ P w N E x) (hN:N≤490000):x.s.D.length≤1000000:=by have:=h.sm.d;omega
theorem Vw (h:qQ P w N E x):x.s.M.length≤1000000:=by have:=h.ok.ml;omega
theorem Vx (h:qQ P w N E x):x.s.I.length≤1000000:=by have:=h.ok.il;have:=h.ok.n4;omega
theorem Vy (h:qQ P w N E x) (hN:N≤490000):∀ l∈x.L,∀ r∈l.q,r.rows.length≤10000000∧r.bP.length≤10000000:=by
 intro l hl r hr;have h1:=(h.sm.q l.core (by rw [← h.ca];exact List.mem_map.2 ⟨l,hl,rfl⟩)).2 r.core (by unfold ax.core;exact List.mem_map.2 ⟨r,hr,rfl⟩);have h2:r.rows.length<N∧r.bP.length<N:=h1;omega
end
theorem aaj {c a0 a1 a2 a3 a4 a5 a6:Code} (hc:Tryz.f3.body=some (a0.seq (a1.seq (a2.seq (a3.seq (a4.seq (a5.seq (a6.seq (c))))))))) {u0 u1 u2 u3 u4 u5 u6 jB jg jh ji jk jl mW oz lJ nC mE mF mh jC jD jw j6 ig ik iq iw u32 jm jq jr jE jF jG jH jI jJ jK jL jM jN jO jP jQ jR jS jT jU jV jW jX jY kv ky kz kC kD kE kF u64 kG kH kg ko kI kJ kK kL kM kN kP kQ kR lK lL lN lQ lT lU lV lW lX lY lZ l7 l8 l9 mf mg mi mI nE nG nH nI fU fV fZ gm gp gq gu gy gz gB gF gG gH gJ gK gL gM gN gP gQ iA iB iC iD iE iF iG iH iI iJ iK iL iM iN iO iP iQ iR iT iU iV iW iX iY iZ jd je jf kU kV kW kX lg lh ll lu lv lC lD mJ mK mM mO mP mQ mR mU mZ ng ni nu ny wZ xe xh xm xq xu xx vF vH vJ vK vN vQ vS vU vW vX vY vZ wh wm xy xz xA xB xC xE xG xH xJ xK xN xP sQ sU sV sZ tq tu tC tF tH tJ tK tL tN tQ tV tX tY tZ uf ug uh ui uj uk:Value} (bn:Nat) (aa:Option Addr) (ac:Nat) (ba:Option Addr) (bc:Nat) (P:Nat→Prop) (B0 N n K:Nat) (S M:Fin 7→Value) (E:Fin 7→List (Sl×Int)) (G:List fA) (w:World)
 (h:oW P B0 w N n K S M E (.slice aa bn ac) (.slice ba bn bc) G) (hB:B0≤w.heap.size) (hgn:G.length=bn) (hg4:bn≤4) (hN:N≤490000) (hn:n≤7000000) (hE:∀ i,(E i).length≤60000000) (PP:Ending→World→Prop) (hQ:∀ w',Below B0 w w'→PP (.returned (.bool true)) w') :
 c.wp Tryz.prog (bodyPost Tryz.prog Tryz.f3 PP) { tmps:=(List.toArray (α:=Value) (u0::u1::u2::u3::u4::u5::u6::.int .i64 (bn:Int)::.slice aa bn ac::.slice ba bn bc::jB::jg::jh::ji::jk::jl::.pointer (some ⟨K,0,none⟩)::mW::oz::lJ::nC::mE::mF::mh::jC::jD::jw::j6::ig::ik::iq::iw::u32::jm::jq::jr::jE::jF::jG::jH::jI::jJ::jK::jL::jM::jN::jO::jP::jQ::jR::jS::jT::jU::jV::jW::jX::jY::kv::ky::kz::kC::kD::kE::kF::u64::kG::kH::kg::ko::kI::kJ::kK::kL::kM::kN::kP::kQ::kR::lK::lL::lN::lQ::lT::lU::lV::lW::lX::lY::lZ::l7::l8::l9::mf::mg::mi::mI::nE::nG::nH::nI::fU::fV::fZ::gm::gp::gq::gu::gy::gz::gB::gF::gG::gH::gJ::gK::gL::gM::gN::gP::gQ::iA::iB::iC::iD::iE::iF::iG::iH::iI::iJ::iK::iL::iM::iN::iO::iP::iQ::iR::iT::iU::iV::iW::iX::iY::iZ::jd::je::jf::kU::kV::kW::kX::lg::lh::ll::lu::lv::lC::lD::mJ::mK::mM::mO::mP::mQ::mR::mU::mZ::ng::ni::nu::ny::wZ::xe::xh::xm::xq::xu::xx::vF::vH::vJ::vK::vN::vQ::vS::vU::vW::vX::vY::vZ::wh::wm::xy::xz::xA::xB::xC::xE::xG::xH::xJ::xK::xN::xP::sQ::sU::sV::sZ::tq::tu::tC::tF::tH::tJ::tK::tL::tN::tQ::tV::tX::tY::tZ::uf::ug::uh::ui::uj::uk::[])),defers:=[] } w:=by
 injection hc with k0;injection k0 with e0 k1;clear e0;injection k1 with e1 k2;clear e1;injection k2 with e2 k3;clear e2;injection k3 with e3 k4;clear e3;injection k4 with e4 k5;clear e4;injection k5 with e5 k6;clear e5;injection k6 with e6 k7;clear e6;subst k7;have Ud:=ae hQ;have HL:=ae h;have HE:=ae hE;have zV:=ae hgn;clear hQ h hE hgn;go_wp2_with fail
 go_loopw [28] (fun i wr=>∃ k:Nat,k≤bn∧i=.int .i64 k∧Hid (Below B0 w wr∧∃ (P:Nat→Prop) (n:Nat) (S M:Fin 7→Value) (E:Fin 7→List (Sl×Int)),Kg P B0 wr N n K S M E (.slice aa bn ac) (.slice ba bn bc) G k∧n≤7000000+41*k∧∀ i,(E i).length≤60000000+164*k)) (fun i _=>bn - (intOf i).toNat)
 case atStart=>exact ⟨0,Nat.zero_le _,rfl,Below.refl _ _,P,n,S,M,E,HL.out.last,hn,HE.out⟩
 case round =>
  obtain ⟨i,hi,rfl,HI⟩:=hrel;obtain ⟨hb0,P,n,S,M,E,ht,hn,hE⟩:=HI.out;have HB0:=ae hb0;have HT:=ae ht;have HE:=ae hE;clear hb0 hE;by_cases hlk:i<bn
  ·have Ad:decide ((i:Int)<(bn:Int))=true:=by simp;omega
   obtain ⟨x,hx⟩:∃ x,G[i]? = some x:=⟨G[i]'(by rw [zV.out];exact hlk),by simp⟩;have hg:=ht.g i x (Nat.le_refl _) hx;have HX:=ae hx;obtain ⟨ga,hga,-,um,uN⟩:=Bj ht.oa OX hx;obtain ⟨gb,hgb,-,uq,hcb⟩:=Bj ht.ob Uk hx;subst hga hgb;obtain ⟨vT,vM,vD,vO,vI,⟨wH,wJ,wK⟩,⟨xV,xW,xX⟩,⟨sw,sF,sG⟩,⟨xY,yN,wL⟩,⟨xZ,yO,yF⟩,L,L',⟨g,n0,T,Mp,D,O,I⟩⟩:=x;obtain ⟨ta,tn,tc,rfl⟩:=aB hg.a.oT;obtain ⟨ma,mn,mc,rfl⟩:=aB hg.a.oM;obtain ⟨da,dn,dc,rfl⟩:=aB hg.a.oD;obtain ⟨oa,on,oc,rfl⟩:=aB hg.a.oO;obtain ⟨ia,il,ic,rfl⟩:=aB hg.a.oI;have HG:=ae hg;have Kh:wr.cell? ⟨ga,i*7,none⟩=some (.int .u8 g):=by simpa using uN 0 _ rfl
   have Ki:wr.cell? ⟨ga,i*7+1,none⟩=some (.int .u8 n0):=uN 1 _ rfl;have Kj:wr.cell? ⟨ga,i*7+2,none⟩=some (.slice ta tn tc):=uN 2 _ rfl;have Kk:wr.cell? ⟨ga,i*7+3,none⟩=some (.slice ma mn mc):=uN 3 _ rfl;have Kl:wr.cell? ⟨ga,i*7+4,none⟩=some (.slice da dn dc):=uN 4 _ rfl;have Km:wr.cell? ⟨ga,i*7+5,none⟩=some (.slice oa on oc):=uN 5 _ rfl;have Kn:wr.cell? ⟨ga,i*7+6,none⟩=some (.slice ia il ic):=uN 6 _ rfl;have Ml:wr.cell? ⟨gb,i*7,none⟩=some (.int .u8 g):=by simpa using hcb 0 _ rfl
   have Mm:wr.cell? ⟨gb,i*7+1,none⟩=some (.int .u8 n0):=hcb 1 _ rfl;have Mo:wr.cell? ⟨gb,i*7+2,none⟩=some (.slice wH wJ wK):=hcb 2 _ rfl;have Mq:wr.cell? ⟨gb,i*7+3,none⟩=some (.slice xV xW xX):=hcb 3 _ rfl;have Mr:wr.cell? ⟨gb,i*7+4,none⟩=some (.slice sw sF sG):=hcb 4 _ rfl;have Ms:wr.cell? ⟨gb,i*7+5,none⟩=some (.slice xY yN wL):=hcb 5 _ rfl;have Mt:wr.cell? ⟨gb,i*7+6,none⟩=some (.slice xZ yO yF):=hcb 6 _ rfl;have hi3:(0:Int)≤(i:Int):=by omega
   have hi4:(i:Int)<(bn:Int):=by omega
   clear uN hcb hx hg ht;have MK:Hid (∀ w',Below wr.heap.size wr w'→(fun w'=>Below wr.heap.size wr w'∧w'.cell? ⟨ga,i*7,none⟩=some (.int .u8 g)∧w'.cell? ⟨ga,i*7+1,none⟩=some (.int .u8 n0)∧w'.cell? ⟨ga,i*7+2,none⟩=some (.slice ta tn tc)∧w'.cell? ⟨ga,i*7+3,none⟩=some (.slice ma mn mc)∧w'.cell? ⟨ga,i*7+4,none⟩=some (.slice da dn dc)∧w'.cell? ⟨ga,i*7+5,none⟩=some (.slice oa on oc)∧w'.cell? ⟨ga,i*7+6,none⟩=some (.slice ia il ic)∧w'.cell? ⟨gb,i*7,none⟩=some (.int .u8 g)∧w'.cell? ⟨gb,i*7+1,none⟩=some (.int .u8 n0)∧w'.cell? ⟨gb,i*7+2,none⟩=some (.slice wH wJ wK)∧w'.cell? ⟨gb,i*7+3,none⟩=some (.slice xV xW xX)∧w'.cell? ⟨gb,i*7+4,none⟩=some (.slice sw sF sG)∧w'.cell? ⟨gb,i*7+5,none⟩=some (.slice xY yN wL)∧w'.cell? ⟨gb,i*7+6,none⟩=some (.slice xZ yO yF)) w'):=ae fun w' hb=>⟨hb,(hb.cell (p:=⟨ga,i*7,none⟩) um).trans Kh,(hb.cell (p:=⟨ga,i*7+1,none⟩) um).trans Ki,(hb.cell (p:=⟨ga,i*7+2,none⟩) um).trans Kj,(hb.cell (p:=⟨ga,i*7+3,none⟩) um).trans Kk,(hb.cell (p:=⟨ga,i*7+4,none⟩) um).trans Kl,(hb.cell (p:=⟨ga,i*7+5,none⟩) um).trans Km,(hb.cell (p:=⟨ga,i*7+6,none⟩) um).trans Kn,(hb.cell (p:=⟨gb,i*7,none⟩) uq).trans Ml,(hb.cell (p:=⟨gb,i*7+1,none⟩) uq).trans Mm,(hb.cell (p:=⟨gb,i*7+2,none⟩) uq).trans Mo,(hb.cell (p:=⟨gb,i*7+3,none⟩) uq).trans Mq,(hb.cell (p:=⟨gb,i*7+4,none⟩) uq).trans Mr,(hb.cell (p:=⟨gb,i*7+5,none⟩) uq).trans Ms,(hb.cell (p:=⟨gb,i*7+6,none⟩) uq).trans Mt⟩
   go_upto_region 46 with fail
   go_region_held3 (fun w'=>Below wr.heap.size wr w'∧w'.cell? ⟨ga,i*7,none⟩=some (.int .u8 g)∧w'.cell? ⟨ga,i*7+1,none⟩=some (.int .u8 n0)∧w'.cell? ⟨ga,i*7+2,none⟩=some (.slice ta tn tc)∧w'.cell? ⟨ga,i*7+3,none⟩=some (.slice ma mn mc)∧w'.cell? ⟨ga,i*7+4,none⟩=some (.slice da dn dc)∧w'.cell? ⟨ga,i*7+5,none⟩=some (.slice oa on oc)∧w'.cell? ⟨ga,i*7+6,none⟩=some (.slice ia il ic)∧w'.cell? ⟨gb,i*7,none⟩=some (.int .u8 g)∧w'.cell? ⟨gb,i*7+1,none⟩=some (.int .u8 n0)∧w'.cell? ⟨gb,i*7+2,none⟩=some (.slice wH wJ wK)∧w'.cell? ⟨gb,i*7+3,none⟩=some (.slice xV xW xX)∧w'.cell? ⟨gb,i*7+4,none⟩=some (.slice sw sF sG)∧w'.cell? ⟨gb,i*7+5,none⟩=some (.slice xY yN wL)∧w'.cell? ⟨gb,i*7+6,none⟩=some (.slice xZ yO yF)) (first | exact MK.out _ (Below.refl _ _).drew | exact MK.out _ (fB (by assumption) (by assumption)) | exact MK.out _ (fI (by assumption))) (first | (go_at_call 10;refine (BU (HG.out.later (And.left (by assumption)))).mono ?_;rintro e w6 ⟨rfl,hb6⟩))
   have xR:Hid (Below wr.heap.size wr w6):=ae (And.left (by assumption));have GJ:=ae (HG.out.later xR.out);have Pm:=ae (HT.out.later xR.out);clear HG HT;obtain ⟨_,Kh,Ki,Kj,Kk,Kl,Km,Kn,_⟩:=MK.out _ xR.out;clear MK;go_wp2_with (first | (go_at_call 16;go_must (refine (Uf K n S M E g n0 ta tn tc ma mn mc da dn dc oa on oc ia il ic T Mp D L I _ Pm.out.bk GJ.out.a GJ.out.off (by omega) (fun j=>Nat.le_trans (HE.out j) (by omega)) (Ul GJ.out) (Um GJ.out) (Vu GJ.out hN) (Vw GJ.out) (Vv GJ.out hN) (Vx GJ.out) (Vy GJ.out hN)).mono ?_;rintro e w7 ⟨rfl,S',M',E',n',hB7,hn7,hT7⟩;have uJ:=ae (Pm.out.book HX.out hB7 hT7 (Nat.le_trans hB (Nat.le_trans HB0.out.size xR.out.size)));have HL7:Hid (∀ j,(E' j).length≤60000000+164*(i+1)):=ae (fun j=>by have h1:=hT7.len j;have h2:=HE.out j;omega);clear hB7 hT7)))
   go_roundw
   case rel=>exact ⟨i+1,by omega,by go_num,(HB0.out.trans (xR.out.mono (Nat.le_trans hB HB0.out.size))).trans uJ.out.2,_,n',S',M',E',uJ.out.1,by omega,HL7.out⟩
   case measure=>simp [intOf];omega
  ·have Ad:decide ((i:Int)<(bn:Int))=false:=by simp;omega
   go_wp2_with (first | (go_at_call 17;go_must (refine (Uh K n S M E _ HT.out.bk).mono ?_;rintro e w6 ⟨rfl,hb6⟩;have xR:=ae hb6;clear hb6)))
   show PP (.returned (.bool true)) _;exact Ud.out _ (HB0.out.trans (xR.out.mono (Nat.le_trans hB HB0.out.size)))
end
end Go.Proofs.YtignemioillaiaaGreat
