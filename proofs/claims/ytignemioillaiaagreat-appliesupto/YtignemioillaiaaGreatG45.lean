/- The law of Applies: what is known of a round behind the two calls of Apply; how a book, a box, a call changes it. -/
import Derived.Test.YtignemioillaiaaGreatG44
namespace Go.Proofs.YtignemioillaiaaGreat
set_option maxHeartbeats 8000000
set_option maxRecDepth 100000
section
open Go.RowKit Go.Lib
theorem Vz {P:Nat→Prop} {B0:Nat} {w0 w:World} {s:Sl} {size:Nat} {xs:List (List Value)} (h:bQ B0 w0 s size xs) (hn:s.a=none→s.cap=0) (hb:Below B0 w0 w) (hB:B0≤w.heap.size) (hP:∀ k,P k→B0≤k):fT P w s size xs:=by
 have h1:=h.below hb (Nat.le_refl _);refine ⟨⟨h1.len,h1.le,h1.max,fun h0=>?_⟩,hn,fun h0 b o e ha hp=>?_⟩
 ·obtain ⟨b,off,ha,hlt,hc⟩:=h1.at' h0
  exact ⟨b,off,ha,Nat.lt_of_lt_of_le hlt hB,hc⟩
 ·obtain ⟨b',off,ha',hlt,_⟩:=h.at' h0
  rw [ha] at ha';simp only [Option.some.injEq,Addr.mk.injEq] at ha';have:=hP b hp;omega
theorem bQ.wide {B0:Nat} {w0 w:World} {s:Sl} {size:Nat} {xs:List (List Value)} (h:bQ B0 w0 s size xs) (hb:Below B0 w0 w) (hB:B0≤w.heap.size):bQ w.heap.size w s size xs:=by
 have h1:=h.below hb (Nat.le_refl _);refine ⟨h1.len,h1.le,h1.max,fun h0=>?_⟩;obtain ⟨b,off,ha,hlt,hc⟩:=h1.at' h0;exact ⟨b,off,ha,Nat.lt_of_lt_of_le hlt hB,hc⟩
theorem Wz {B0:Nat} {w0 w:World} {b o:Nat} {n c size:Nat} {xs:List (List Value)} (h:bQ B0 w0 ⟨some ⟨b,o,none⟩,n,c⟩ size xs) {i:Nat} {x:List Value} (hx:xs[i]? = some x) (hb:Below B0 w0 w):∀ (j:Nat) (u:Value),x[j]? = some u→w.cell? ⟨b,o+i*size+j,none⟩=some u:=by
 intro j u hu;have h1:=h.below hb (Nat.le_refl _);have hlt:=(mV hx);obtain ⟨b',off,ha,_,hc⟩:=h1.at' (by rw [h1.len];omega);simp only [Option.some.injEq,Addr.mk.injEq,and_true] at ha;obtain ⟨rfl,rfl⟩:=ha;exact hc i x hx j u hu
theorem NZ {w:World} {W:Nat} {e e':TypeId} {m m' n n':Nat} {v v':Value} {xs xs':List Value} (h:w.ownsRow W e m v n xs) (h':w.ownsRow W e' m' v' n' xs') {k:Nat} (hk:some k=v.ownBlock∨some k=v'.ownBlock):W≤k:=by
 rcases hk with hk | hk
 ·exact (h.lt k hk.symm).1
 ·exact (h'.lt k hk.symm).1
theorem VA {w:World} {K n:Nat} {S M:Fin 7→Value} {E:Fin 7→List (Sl×Int)} (hB:Bk w K n S M E) {c:Nat} (hc:w.heap.size≤c):∀ i,dH (some c) (E i):=by
 intro i j s m hi d hd e;have h2:=(World.ownsRow.lt ((hB.oC i).all j s m hi) d hd).2;injection e with e;omega
section
variable {P A:Nat→Prop} {B0:Nat} {w w':World} {N n n' d K:Nat} {S M S' M':Fin 7→Value} {E E':Fin 7→List (Sl×Int)} {va vb:Value} {G:List fA}
theorem Bk.aiO {b:Nat} {cur:Array Value} {fz:Nat×Nat} (hB:Bk w K n S M E) (hb:w.heap[b]? = some (.cells cur 57 fz)) (hA:¬ A b):¬ uY K S M A b:=by
 have Rj:∀ i:Fin 7,He i≠57:=by decide
 rintro (e | e | ⟨i,e | e⟩)
 ·subst e
  rw [hB.blk] at hb;injection hb with hb;injection hb with _ hb _;exact absurd hb (by decide)
 ·exact hA e
 ·exact bf (hB.oC i).own hb (Rj i) e.symm
 ·exact bf (hB.oC i).marks hb (by decide) e.symm
theorem Bk.aiP (h:Bk w K n S M E) (hc:av A w w') (hA:∀ k,k<w.heap.size→A k→(∃ cur fz,w.heap[k]? = some (.cells cur 31 fz))∨((∃ cur fz,w.heap[k]? = some (.cells cur 57 fz))∧∀ i,dH (some k) (E i))):Bk w' K n S M E:=by
 have Rj:∀ i:Fin 7,He i≠31∧He i≠57:=by decide
 have ten:∀ i:Fin 7,F3 i≠31:=by decide
 have na:∀ {b:Nat} {e:TypeId} {size m:Nat} {v:Value} {xs:List Value},w.ownsRow b e size v m xs→e≠31→e≠57→∀ k,v.ownBlock=some k→¬ A k:=by
  intro b e size m v xs hv hne hne' k hk hAk;rcases hA k (hv.lt k hk).2 hAk with ⟨cur,fz,dW⟩ | ⟨⟨cur,fz,dW⟩,_⟩
  ·exact bf hv dW hne hk
  ·exact bf hv dW hne' hk
 have fr:Fr A w w':=⟨hc.os,hc.tape,hc.output,hc.size,hc.block⟩;refine ⟨nQ h.blk hc (fun hAk=>?_),fun i=>(h.oC i).fr fr (na (h.oC i).own (Rj i).1 (Rj i).2) (na (h.oC i).marks (by decide) (by decide)) (fun j s m hj k hk hAk=>?_),h.mm,h.Rh⟩
 ·rcases hA K (df h.blk) hAk with ⟨cur,fz,dW⟩ | ⟨⟨cur,fz,dW⟩,_⟩
  all_goals
   rw [h.blk] at dW;injection dW with dW;injection dW with _ dW _;exact absurd dW (by decide)
 ·rcases hA k (((h.oC i).all j s m hj).lt k hk).2 hAk with ⟨cur,fz,dW⟩ | ⟨_,hoff⟩
  ·exact bf ((h.oC i).all j s m hj) dW (ten i) hk
  ·exact hoff i j s m hj k hk rfl
theorem oW.box (h:oW P B0 w N n K S M E va vb G) (hc:av A w w') (hbk:Bk w' K n S M E) (Fv:∀ k,A k→P k) (hF:∀ x∈G,∀ k,x.foot k→¬ A k) (ha:∀ k,va.ownBlock=some k→¬ A k) (hb:∀ k,vb.ownBlock=some k→¬ A k):oW P B0 w' N n K S M E va vb G :=
 ⟨hbk,h.pk,fun k hk=>⟨(h.lt k hk).1,Nat.lt_of_lt_of_le (h.lt k hk).2 hc.size⟩,dB h.oa hc ha,dB h.ob hc hb,h.ab,h.pa,h.pb,fun x hx=>(h.g x hx).dX hc Fv (hF x hx),h.dj⟩
theorem oW.aiQ (h:oW P B0 w N n K S M E va vb G) (hT:jA K A d w w' S M E S' M' E') (hA:∀ k,k<w.heap.size→A k→P k):av P w w':=by
 refine hT.fr.dX.mono (fun k hk e=>?_);rcases e with e | e | e
 ·exact h.pk k (.inl e)
 ·exact hA k hk e
 ·exact h.pk k (.inr (.inr e))
theorem oW.DF (h:oW P B0 w N n K S M E va vb G) (hc:av P w w') (hB:B0≤w.heap.size):Below B0 w w' :=
 hc.below (fun k hk=>⟨by omega,fun e=>by have:=h.lt k e;omega⟩)
def sev (a b c d e f g:Value):Fin 7→Value
 | 0=>a | 1=>b | 2=>c | 3=>d | 4=>e | 5=>f | 6=>g
theorem VB (s:St) (c:dY):(iy s c).1.g=s.g∧(iy s c).1.n=s.n:=by
 have hdo:∀ q,(qh s q).g=s.g∧(qh s q).n=s.n:=by
  intro q;unfold qh;split
  ·exact ⟨rfl,rfl⟩
  ·split
   ·exact ⟨rfl,rfl⟩
   ·split
    ·exact ⟨rfl,rfl⟩
    ·exact ⟨rfl,rfl⟩
 unfold iy;split
 ·unfold qz
  split
  ·exact ⟨rfl,rfl⟩
  ·split
   ·exact ⟨rfl,rfl⟩
   ·split
    ·split
     ·split
      ·exact hdo _
      ·split
       ·exact ⟨rfl,rfl⟩
       ·exact ⟨rfl,rfl⟩
     ·exact ⟨rfl,rfl⟩
    ·exact hdo _
 ·split
  ·show (pW _ _ _).g=_∧(pW _ _ _).n=_
   unfold pW;split
   ·exact ⟨rfl,rfl⟩
   ·exact ⟨rfl,rfl⟩
  ·split
   ·show (qU _ _ _).g=_∧(qU _ _ _).n=_
    unfold qU;split
    ·exact ⟨rfl,rfl⟩
    ·exact ⟨rfl,rfl⟩
   ·exact ⟨rfl,rfl⟩
theorem aak (s:St) {k a b c d e p q:Int} {rq:bH} {r1 s1 r2 s2:Sl} {rows:List Row} {bP:List ak}:iy s (dY.mk k rq (aF.mk a b c d e r1 s1 rows bP) p q)=iy s (dY.mk k rq (aF.mk a b c d e r2 s2 rows bP) p q):=rfl
theorem aeM {k a b c d e p q:Int} {rq:bH} {r1 s1 r2 s2:Sl} {rows:List Row} {bP:List ak} (h:(dY.mk k rq (aF.mk a b c d e r1 s1 rows bP) p q).wf):(dY.mk k rq (aF.mk a b c d e r2 s2 rows bP) p q).wf :=
 ⟨h.kind,h.zq,⟨h.qE.src,h.qE.dst,h.qE.seq,h.qE.lo,h.qE.hi,h.qE.rows,h.qE.bP⟩,h.peer,h.seq⟩
structure RT (P:Nat→Prop) (B0 W:Nat) (w:World) (N n K:Nat) (S M:Fin 7→Value) (E:Fin 7→List (Sl×Int)) (va vb:Value) (G:List fA) (sT sM sD sO sI:Sl) (L':List ax) (s:St) (bs br bt bq:Nat) (q:ak):Prop where
 law:oW P B0 w N n K S M E va vb G
 b0:B0≤W
 ww:W≤w.heap.size
 low:∀ y∈G,∀ k,y.foot k→k<W
 Rn:∀ k,va.ownBlock=some k→k<W
 YG:∀ k,vb.ownBlock=some k→k<W
 lk:K<W
 t:ry P w sT sM sD sO sI s.T s.M s.D L' s.I
 cb:L'.map ax.core=s.O
 ok:ku s
 q4:Lp s
 sm:nL N s
 hbs:∃ c:Fin 7→Value,w.heap[bs]? = some (.cells #[c 0,c 1,c 2,c 3,c 4,c 5,c 6] 31)
 hbr:w.heap[br]? = some (.cells q.cells.toArray 57)
 hbt:w.heap[bt]? = some (.cells #[.int .u8 s.g,.int .u8 s.n,sT.val,sM.val,sD.val,sO.val,sI.val] 31)
 hbq:w.heap[bq]? = some (.cells q.cells.toArray 57)
 Ls:W≤bs
 Lt:W≤br
 N7:W≤bt
 pbs:P bs
 pbr:P br
 YH:¬ P bt
 YI:¬ P bq
 WA:∀ i,dH (some br) (E i)
structure RA (P:Nat→Prop) (W:Nat) (w:World) (E:Fin 7→List (Sl×Int)) (vT vM vD vO vI:Value) (L:List ax) (s:St) (bs br:Nat):Prop where
 a:ShM w W vT vM vD vO vI s.T s.M s.D L s.I
 ca:L.map ax.core=s.O
 pa:∀ k,qd vT vM vD vO vI L k→P k
 off:Gr vT vM vD vO vI L E
 xb:∀ k,qd vT vM vD vO vI L k→k≠bs∧k≠br
 hbs:w.heap[bs]? = some (.cells (rW s.g s.n vT vM vD vO vI).toArray 31)
end
section
variable {P A:Nat→Prop} {B0 W:Nat} {w w':World} {N n n' d K:Nat} {S M S' M':Fin 7→Value} {E E':Fin 7→List (Sl×Int)} {va vb:Value} {G:List fA} {sT sM sD sO sI:Sl} {L L':List ax} {s:St} {bs br bt bq:Nat} {q:ak} {vT vM vD vO vI:Value}
theorem RT.later (h:RT P B0 W w N n K S M E va vb G sT sM sD sO sI L' s bs br bt bq q) (hb:Below w.heap.size w w'):RT P B0 W w' N n K S M E va vb G sT sM sD sO sI L' s bs br bt bq q:=by
 obtain ⟨c7,dW⟩:=h.hbs;exact ⟨h.law.later hb,h.b0,Nat.le_trans h.ww hb.size,h.low,h.Rn,h.YG,h.lk,h.t.later hb,h.cb,h.ok,h.q4,h.sm,⟨c7,(hb.block bs (df dW)).trans dW⟩,af hb h.hbr,af hb h.hbt,af hb h.hbq,h.Ls,h.Lt,h.N7,h.pbs,h.pbr,h.YH,h.YI,h.WA⟩
theorem RA.later (h:RA P W w E vT vM vD vO vI L s bs br) (hb:Below w.heap.size w w'):RA P W w' E vT vM vD vO vI L s bs br:=⟨h.a.later hb,h.ca,h.pa,h.off,h.xb,af hb h.hbs⟩
theorem BV {f:fA→List Value} (hf:∀ y,(f y).length=7) {ga bn ac gi:Nat} {y:fA} (h:w.ownsRow B0 31 7 (.slice (some ⟨ga,0,none⟩) bn ac) G.length (G.map f).flatten) (hy:G[gi]? = some y):∀ (j:Nat) (u:Value),(f y)[j]? = some u→w.cell? ⟨ga,gi*7+j,none⟩=some u:=by
 obtain ⟨g,e,-,-,hc⟩:=Bj h hf hy;simp only [Option.some.injEq,Addr.mk.injEq,and_true] at e;subst e;exact hc
theorem WB (x:fA) (hB:Bk w K n S M E) (h:qQ P w N E x) (hN:N≤490000) (hn:n≤8000000) (hE:∀ i,(E i).length≤70000000) :
 Calls Tryz.prog 16 #[.pointer (some ⟨K,0,none⟩),.agg x.ac.toArray] w fun e w'=>e=.returned (.tuple #[])∧∃ (S' M':Fin 7→Value) (E':Fin 7→List (Sl×Int)) (n':Nat),Bk w' K n' S' M' E'∧n'≤n+41∧jA K (nJ K x.vT x.vM x.vD x.vO x.vI x.L) 164 w w' S M E S' M' E':=by
 obtain ⟨vT,vM,vD,vO,vI,sT,sM,sD,sO,sI,L,L',⟨g,n0,T,Mp,D,O,I⟩⟩:=x;obtain ⟨ta,tn,tc,rfl⟩:=aB h.a.oT;obtain ⟨ma,mn,mc,rfl⟩:=aB h.a.oM;obtain ⟨da,dn,dc,rfl⟩:=aB h.a.oD;obtain ⟨oa,on,oc,rfl⟩:=aB h.a.oO;obtain ⟨ia,il,ic,rfl⟩:=aB h.a.oI;exact Uf K n S M E g n0 ta tn tc ma mn mc da dn dc oa on oc ia il ic T Mp D L I w hB h.a h.off hn hE (Ul h) (Um h) (Vu h hN) (Vw h) (Vv h hN) (Vx h) (Vy h hN)
theorem RT.YJ (h:RT P B0 W w N n K S M E va vb G sT sM sD sO sI L' s bs br bt bq q) (ha:RA P W w E vT vM vD vO vI L s bs br):qQ P w N E ⟨vT,vM,vD,vO,vI,sT,sM,sD,sO,sI,L,L',s⟩ :=
 ⟨ha.a.mono (Nat.zero_le _),h.t,ha.ca,h.cb,h.ok,h.q4,h.sm,ha.off,ha.pa⟩
theorem RT.dis (h:RT P B0 W w N n K S M E va vb G sT sM sD sO sI L' s bs br bt bq q) (ha:RA P W w E vT vM vD vO vI L s bs br):∀ y∈G,∀ k,qd vT vM vD vO vI L k→¬ y.foot k:=by
 intro y hy k hk hk';have h1:=(ha.a.lt k hk).1;have h2:=h.low y hy k hk';omega
theorem RT.foot (h:RT P B0 W w N n K S M E va vb G sT sM sD sO sI L' s bs br bt bq q) (ha:RA P W w E vT vM vD vO vI L s bs br):∀ k,nJ K vT vM vD vO vI L k→P k∧(k=K∨W≤k)∧k≠bs∧k≠br:=by
 rintro k (rfl | hk)
 ·have:=h.lk
  have:=h.Ls;have:=h.Lt;exact ⟨h.law.pk _ (.inl rfl),.inl rfl,by omega,by omega⟩
 ·exact ⟨ha.pa k hk,.inr (ha.a.lt k hk).1,ha.xb k hk⟩
theorem RT.book (h:RT P B0 W w N n K S M E va vb G sT sM sD sO sI L' s bs br bt bq q) (hB':Bk w' K n' S' M' E') (hT:jA K A d w w' S M E S' M' E') (hA:∀ k,k<w.heap.size→A k→P k∧(k=K∨W≤k)∧k≠bs∧k≠br) (hA2:∀ k,A k→k=K∨W≤k):RT (p9 P w w') B0 W w' N n' K S' M' E' va vb G sT sM sD sO sI L' s bs br bt bq q∧Below B0 w w':=by
 have hB:B0≤w.heap.size:=Nat.le_trans h.b0 h.ww;have Fv:∀ k,k<w.heap.size→A k→P k:=fun k hk e=>(hA k hk e).1
 have hc:=h.law.aiQ hT Fv;obtain ⟨c7,dW⟩:=h.hbs;have yh:=(df dW);have yP:=(df h.hbr);have nas:¬ uY K S M A bs:=h.law.bk.box dW (fun e=>(hA bs yh e).2.2.1 rfl);have Vq:¬ uY K S M A br:=h.law.bk.aiO h.hbr (fun e=>(hA br yP e).2.2.2 rfl);have Ui:∀ x∈G,∀ k,x.foot k→¬ A k:=by
  intro x hx k hk e;rcases hA2 k e with e1 | e1
  ·exact (h.law.g x hx).a.Vt h.law.bk (A:=fun _=>False) (fun _ _=>id) k hk (.inl e1)
  ·have:=h.low x hx k hk;omega
 have hva:∀ k,va.ownBlock=some k→¬ A k:=by
  intro k hk e;rcases hA2 k e with e1 | e1
  ·obtain ⟨cur,dW⟩:=yG h.law.oa hk
   exact h.law.bk.box (A:=fun _=>False) dW id (.inl e1)
  ·have:=h.Rn k hk;omega
 have hvb:∀ k,vb.ownBlock=some k→¬ A k:=by
  intro k hk e;rcases hA2 k e with e1 | e1
  ·obtain ⟨cur,dW⟩:=yG h.law.ob hk
   exact h.law.bk.box (A:=fun _=>False) dW id (.inl e1)
  ·have:=h.YG k hk;omega
 have lbt:=(df h.hbt);have lbq:=(df h.hbq);refine ⟨⟨h.law.book hB' hT Fv Ui hva hvb hB,h.b0,Nat.le_trans h.ww hc.size,h.low,h.Rn,h.YG,h.lk,(h.t.to (P':=p9 P w w') (fun k hk=>hk.imp id (fun e=>e.1))).dV (fun k hk=>.inl hk) hc,h.cb,h.ok,h.q4,h.sm,⟨c7,(hT.fr.dX.block bs yh nas).trans dW⟩,(hT.fr.dX.block br yP Vq).trans h.hbr,(hc.block bt lbt h.YH).trans h.hbt,(hc.block bq lbq h.YI).trans h.hbq,h.Ls,h.Lt,h.N7,.inl h.pbs,.inl h.pbr,?_,?_,fun i=>hT.off i br yP Vq (h.WA i)⟩,h.law.DF hc hB⟩
 ·rintro (e | e)
  ·exact h.YH e
  ·omega
 ·rintro (e | e)
  ·exact h.YI e
  ·omega
theorem RA.book (h:RT P B0 W w N n K S M E va vb G sT sM sD sO sI L' s bs br bt bq q) (ha:RA P W w E vT vM vD vO vI L s bs br) (hT:jA K A d w w' S M E S' M' E') (hA:∀ k,k<w.heap.size→A k→P k∧(k=K∨W≤k)∧k≠bs∧k≠br) (hxA:∀ k,qd vT vM vD vO vI L k→¬ A k):RA (p9 P w w') W w' E' vT vM vD vO vI L s bs br:=by
 obtain ⟨c7,dW⟩:=h.hbs;have yh:=(df dW);have nas:¬ uY K S M A bs:=h.law.bk.box dW (fun e=>(hA bs yh e).2.2.1 rfl);exact ⟨ha.a.dX hT.fr.dX (ha.a.Vt h.law.bk hxA),ha.ca,fun k hk=>.inl (ha.pa k hk),ha.off.to ha.a h.law.bk hT hxA,ha.xb,(hT.fr.dX.block bs yh nas).trans ha.hbs⟩
theorem RT.again (h:RT P B0 W w N n K S M E va vb G sT sM sD sO sI L' s bs br bt bq q) (hc:av (fun k=>k=bs∨k=br) w w') (hbs:w'.heap[bs]? = some (.cells (rW s.g s.n vT vM vD vO vI).toArray 31)) (hbr:w'.heap[br]? = some (.cells q.cells.toArray 57)):RT (p9 P w w') B0 W w' N n K S M E va vb G sT sM sD sO sI L' s bs br bt bq q∧Below B0 w w':=by
 obtain ⟨c7,dW⟩:=h.hbs;have yh:=(df dW);have yP:=(df h.hbr);have lbt:=(df h.hbt);have lbq:=(df h.hbq);have Fv:∀ k,(k=bs∨k=br)→P k:=by
  rintro k (rfl | rfl)
  ·exact h.pbs
  ·exact h.pbr
 have hlow:∀ k,(k=bs∨k=br)→W≤k:=by
  rintro k (rfl | rfl)
  ·exact h.Ls
  ·exact h.Lt
 have hbk:Bk w' K n S M E:=h.law.bk.aiP hc (by
  rintro k hk (rfl | rfl)
  ·exact .inl ⟨_,_,dW⟩
  ·exact .inr ⟨⟨_,_,h.hbr⟩,h.WA⟩)
 have hl:=h.law.box hc hbk Fv (fun x hx k hk e=>by have:=h.low x hx k hk;have:=hlow k e;omega) (fun k hk e=>by have:=h.Rn k hk;have:=hlow k e;omega) (fun k hk e=>by have:=h.YG k hk;have:=hlow k e;omega);have hB:B0≤w.heap.size:=Nat.le_trans h.b0 h.ww;have hn:∀ k,¬ P k→k<w.heap.size→¬ p9 P w w' k:=by
  rintro k h1 h2 (e | e)
  ·exact h1 e
  ·omega
 have nt:¬ (bt=bs∨bt=br):=fun e=>h.YH (Fv bt e)
 have nq:¬ (bq=bs∨bq=br):=fun e=>h.YI (Fv bq e)
 have hlP:oW (p9 P w w') B0 w' N n K S M E va vb G:=by
  have hk:∀ x∈G,qQ (p9 P w w') w' N E x:=fun x hx=>((h.law.g x hx).to (P':=p9 P w w') (fun k hk=>hk.imp id (fun e=>e.1)) (fun k hk=>.inl hk)).dX hc (fun k hk=>.inl (Fv k hk)) (fun k hk e=>by have:=h.low x hx k hk;have:=hlow k e;omega)
  refine ⟨hbk,fun k hk=>.inl (h.law.pk k hk),fun k hk=>?_,hl.oa,hl.ob,hl.ab,fun k hk=>.inl (h.law.pa k hk),fun k hk=>.inl (h.law.pb k hk),hk,h.law.dj⟩;rcases hk with hk | hk
  ·exact ⟨(h.law.lt k hk).1,Nat.lt_of_lt_of_le (h.law.lt k hk).2 hc.size⟩
  ·exact ⟨by omega,hk.2⟩
 exact ⟨⟨hlP,h.b0,Nat.le_trans h.ww hc.size,h.low,h.Rn,h.YG,h.lk,(h.t.to (P':=p9 P w w') (fun k hk=>hk.imp id (fun e=>e.1))).dV (fun k hk=>.inl (Fv k hk)) hc,h.cb,h.ok,h.q4,h.sm,⟨sev _ _ _ _ _ _ _,hbs⟩,hbr,(hc.block bt lbt nt).trans h.hbt,(hc.block bq lbq nq).trans h.hbq,h.Ls,h.Lt,h.N7,.inl h.pbs,.inl h.pbr,hn bt h.YH lbt,hn bq h.YI lbq,h.WA⟩,hc.below (fun k hk=>⟨by omega,fun e=>by have:=hlow k e;have:=h.b0;omega⟩)⟩
theorem RA.again (h:RT P B0 W w N n K S M E va vb G sT sM sD sO sI L' s bs br bt bq q) (hbs:w'.heap[bs]? = some (.cells (rW s.g s.n vT vM vD vO vI).toArray 31)) (ha:ShM w' w.heap.size vT vM vD vO vI s.T s.M s.D L s.I) (uN:L.map ax.core=s.O):RA (p9 P w w') W w' E vT vM vD vO vI L s bs br:=by
 obtain ⟨c7,dW⟩:=h.hbs;have yh:=(df dW);have yP:=(df h.hbr);exact ⟨ha.mono h.ww,uN,fun k hk=>.inr (ha.lt k hk),Gr.new ha h.law.bk (Nat.le_refl _),fun k hk=>by have:=(ha.lt k hk).1;omega,hbs⟩
theorem RT.start {w1 w2 w3:World} {N':Nat} (h:oW P B0 w N n K S M E va vb G) (hB:B0≤w.heap.size) (hK:K<w.heap.size) (hN:N≤N') (hb1:Below w.heap.size w w1) (hb2:Below w1.heap.size w1 w2) (hb3:Below w2.heap.size w2 w3)
 (ha:ShM w2 w1.heap.size vT vM vD vO vI s.T s.M s.D L s.I) (uN:L.map ax.core=s.O) (hxb:∀ k,qd vT vM vD vO vI L k→k≠bs∧k≠br) (Ls:w1.heap.size≤bs) (Lt:w1.heap.size≤br) (hbs:w2.heap[bs]? = some (.cells (rW s.g s.n vT vM vD vO vI).toArray 31)) (hbr:w2.heap[br]? = some (.cells q.cells.toArray 57))
 (ht:ry (p9 P w w2) w3 sT sM sD sO sI s.T s.M s.D L' s.I) (hcb:L'.map ax.core=s.O) (N7:w2.heap.size≤bt) (wbq:w2.heap.size≤bq) (hbt:w3.heap[bt]? = some (.cells #[.int .u8 s.g,.int .u8 s.n,sT.val,sM.val,sD.val,sO.val,sI.val] 31)) (hbq:w3.heap[bq]? = some (.cells q.cells.toArray 57)) (hok:ku s) (hq4:Lp s) (hsm:nL N' s) :
 RT (p9 P w w2) B0 w.heap.size w3 N' n K S M E va vb G sT sM sD sO sI L' s bs br bt bq q∧RA (p9 P w w2) w.heap.size w3 E vT vM vD vO vI L s bs br:=by
 have aiR:=ai hb1 hb2;have s1:=hb1.size;have s2:=hb2.size;have s3:=hb3.size;have yh:=(df hbs);have yP:=(df hbr);have hg:=((h.mono hN).grow aiR hB).later hb3;have hbk1:Bk w1 K n S M E:=h.bk.later hb1;have hnP:∀ k,w2.heap.size≤k→¬ p9 P w w2 k:=by
  rintro k hk (e | e)
  ·have:=(h.lt k e).2;omega
  ·omega
 refine ⟨⟨hg,hB,by omega,fun y hy k hk=>((h.g y hy).a.lt k hk).2,fun k hk=>(h.oa.lt k hk).2,fun k hk=>(h.ob.lt k hk).2,hK,ht,hcb,hok,hq4,hsm,⟨sev _ _ _ _ _ _ _,af hb3 hbs⟩,af hb3 hbr,hbt,hbq,by omega,by omega,by omega,.inr ⟨by omega,yh⟩,.inr ⟨by omega,yP⟩,hnP bt N7,hnP bq wbq,VA h.bk (by omega)⟩,⟨(ha.mono s1).later hb3,uN,fun k hk=>.inr (by have:=ha.lt k hk;omega),Gr.new ha hbk1 (Nat.le_refl _),hxb,af hb3 hbs⟩⟩
end
end
end Go.Proofs.YtignemioillaiaaGreat
