/- A site's lists are laid anew. -/
import Derived.Test.YtignemioillaiabGreatG46
namespace Go.Proofs.YtignemioillaiabGreat
set_option maxHeartbeats 8000000
set_option maxRecDepth 100000
section
open Go Go.Conc
section
variable {Λ:bN} {w w' w1 w2:World} {bs bc:Nat} {S S':Sit} {a a':xC} {gv sv:Value} {B:Nat→Nat→Nat} {ad:Nat→Nat→fu}
theorem GS.of {P:Nat→Prop} {r:Option Nat} (g:GB r w w') (hr:∀ x,r=some x→P x):GS P w w':=⟨g.os,g.out,g.size,fun x hx hn=>g.block x hx fun e=>hn (hr x e.symm)⟩
theorem GS.then {P:Nat→Prop} {r:Option Nat} (h:GS P w w1) (g:GB r w1 w2) (hr:∀ x,r=some x→P x):GS P w w2:=⟨g.os.trans h.os,g.out.trans h.out,Nat.le_trans h.size g.size,fun x hx hn=>(g.block x (Nat.lt_of_lt_of_le hx h.size) fun e=>hn (hr x e.symm)).trans (h.block x hx hn)⟩
theorem dR.gs (h:dR Λ bs bc S a gv sv B ad w) (g:GS (uW bs a) w w') (hs:nV w' bs bc S' a') (hC:S'.C=S.C) (hn:∀ x,uW bs a' x→uW bs a x∨w.heap.size≤x):dR Λ bs bc S' a' gv sv B ad w'∧Kz w w':=by
 have kt:∀ {t:TypeId} {b:Nat} {c:Array Value},t ∉ Va→w.heap[b]? = some (.cells c t)→w'.heap[b]? = some (.cells c t):=fun {t b c} ht hb=>(g.block b (ae hb) fun e=>by
  obtain ⟨c',t',h1,h2⟩:=h.si.typ e;rw [hb] at h1;injection h1 with h1;injection h1 with _ h1;subst h1;exact ht h2).trans hb
 have k:Kz w w':=fun t ht b c hb=>kt (fun e=>(JM e).1 ht) hb
 have cl:∀ x,lu S.C.n S.C.sz B bc sv ad x→x<w.heap.size:=fun x hx=>by
  rcases hx with rfl | hx | ⟨g,i,hg,hi,hx⟩
  ·exact ae h.ci.eX
  ·obtain ⟨c,hc⟩:=aG h.ci.row hx;exact ae hc
  ·exact (h.ci.rep g i hg hi).lt hx
 have c':=h.ci.keep k (fun x hx=>g.block x (cl x hx) fun e=>h.dj x e hx) fun x c t ht hx=>kt (fun e=>(JM e).2 ht) hx
 refine ⟨⟨hs,by rw [hC];exact c',fun x hx hc=>?_,fun b o hb=>⟨(g.block b (ae (h.pr b o hb).1) (h.pr b o hb).2.1).trans (h.pr b o hb).1,fun hx=>?_,by rw [hC];exact (h.pr b o hb).2.2⟩,g.os.trans h.os,g.out.trans h.out⟩,k⟩
 ·rw [hC] at hc
  rcases hn x hx with e | e
  ·exact h.dj x e hc
  ·have:=cl x hc;omega
 ·rcases hn b hx with e | e
  ·exact (h.pr b o hb).2.1 e
  ·have:=ae (h.pr b o hb).1;omega
theorem nV.num (h:nV w bs bc S a) {k:Nat} {b:Bool} (m:w'.heap[bs]? = some (.cells (fI bc { S with next:=k,bad:=b } a).toArray 44)) (g:GB (some bs) w w'):nV w' bs bc { S with next:=k,bad:=b } a:=by
 have nb:∀ {x:Nat} {c:Array Value} {t:TypeId},w.heap[x]? = some (.cells c t)→t≠44→w'.heap[x]? = w.heap[x]?:=fun hx ht=>g.block _ (ae hx) fun e=>cO hx h.mem ht (Option.some.inj e)
 have k:Kz w w':=fun t ht b c hb=>(nb hb fun e=>by subst e;revert ht;decide).trans hb
 refine ⟨m,aF h.ak fun x hx=>?_,aF h.be fun x hx=>?_,h.bl,fun g l v hl hv=>(h.bi g l v hl hv).kz k fun x hx=>?_,aF h.le fun x hx=>?_,aF h.fe fun x hx=>?_⟩
 ·obtain ⟨c,hc⟩:=aG h.ak hx;exact nb hc (by decide)
 ·obtain ⟨c,hc⟩:=aG h.be hx;exact nb hc (by decide)
 ·obtain ⟨c,hc⟩:=(h.bi g l v hl hv).obj hx;exact nb hc (by decide)
 ·obtain ⟨c,hc⟩:=aG h.le hx;exact nb hc (by decide)
 ·obtain ⟨c,hc⟩:=aG h.fe hx;exact nb hc (by decide)
theorem dR.num (h:dR Λ bs bc S a gv sv B ad w) {k:Nat} {b:Bool} (m:w'.heap[bs]? = some (.cells (fI bc { S with next:=k,bad:=b } a).toArray 44)) (g:GB (some bs) w w'):dR Λ bs bc { S with next:=k,bad:=b } a gv sv B ad w'∧Kz w w' :=
 h.gs (GS.of g fun _x e=>.inl (Option.some.inj e).symm) (h.si.num m g) rfl fun _x hx=>.inl hx
theorem dR.ak' (h:dR Λ bs bc S a gv sv B ad w) {v:Value} {l:List Ask} (g1:GB a.aq.ownBlock w w1) (ho:w1.ownsRow 0 67 9 v l.length (l.map Ask.cells).flatten) (hn:∀ x,v.ownBlock=some x→a.aq.ownBlock=some x∨w.heap.size≤x) (m2:w2.heap[bs]? = some (.cells (fI bc { S with asks:=l } { a with aq:=v }).toArray 44)) (g2:GB (some bs) w1 w2):dR Λ bs bc { S with asks:=l } { a with aq:=v } gv sv B ad w2∧Kz w w2:=by
 have own:∀ x,a.aq.ownBlock=some x→∃ c,w.heap[x]? = some (.cells c 67):=fun x hx=>aG h.si.ak hx
 have nb:∀ {x:Nat} {c:Array Value} {t:TypeId},w.heap[x]? = some (.cells c t)→t≠44→t≠67→w2.heap[x]? = w.heap[x]?:=fun {x c t} hx ht1 ht2=>(g2.block x (Nat.lt_of_lt_of_le (ae hx) g1.size) fun e=>cO hx h.si.mem ht1 (Option.some.inj e)).trans (g1.block x (ae hx) fun e=>by obtain ⟨c',hc⟩:=own x e.symm;exact cO hx hc ht2 rfl)
 have k:Kz w w2:=fun t ht b c hb=>(nb hb (fun e=>by subst e;revert ht;decide) (fun e=>by subst e;revert ht;decide)).trans hb
 have hs:nV w2 bs bc { S with asks:=l } { a with aq:=v }:=by
  refine ⟨m2,aF ho fun x hx=>?_,aF h.si.be fun x hx=>?_,h.si.bl,fun g l v hl hv=>(h.si.bi g l v hl hv).kz k fun x hx=>?_,aF h.si.le fun x hx=>?_,aF h.si.fe fun x hx=>?_⟩
  ·obtain ⟨c,hc⟩:=aG ho hx
   refine g2.block x (ae hc) fun e=>?_
   cases e
   rcases hn bs hx with q | q
   ·obtain ⟨c',hc'⟩:=own bs q
    exact cO hc' h.si.mem (by decide) rfl
   ·have:=ae h.si.mem;omega
  ·obtain ⟨c,hc⟩:=aG h.si.be hx;exact nb hc (by decide) (by decide)
  ·obtain ⟨c,hc⟩:=(h.si.bi g l v hl hv).obj hx;exact nb hc (by decide) (by decide)
  ·obtain ⟨c,hc⟩:=aG h.si.le hx;exact nb hc (by decide) (by decide)
  ·obtain ⟨c,hc⟩:=aG h.si.fe hx;exact nb hc (by decide) (by decide)
 refine h.gs ((GS.of g1 fun x e=>.inr (.inl e)).then g2 fun x e=>.inl (Option.some.inj e).symm) hs rfl fun x hx=>?_
 rcases hx with e | e | e | e | e | e
 ·exact .inl (.inl e)
 ·exact (hn x e).imp (fun e=>.inr (.inl e)) id
 ·exact .inl (.inr (.inr (.inl e)))
 ·exact .inl (.inr (.inr (.inr (.inl e))))
 ·exact .inl (.inr (.inr (.inr (.inr (.inl e)))))
 ·exact .inl (.inr (.inr (.inr (.inr (.inr e)))))
theorem dR.le' (h:dR Λ bs bc S a gv sv B ad w) {v:Value} {l:List Nat} (g1:GB a.lq.ownBlock w w1) (ho:w1.ownsRow 0 3 1 v l.length (l.map fun k=>Value.int .i64 (k:Nat))) (hn:∀ x,v.ownBlock=some x→a.lq.ownBlock=some x∨w.heap.size≤x) (m2:w2.heap[bs]? = some (.cells (fI bc { S with len:=l } { a with lq:=v }).toArray 44)) (g2:GB (some bs) w1 w2):dR Λ bs bc { S with len:=l } { a with lq:=v } gv sv B ad w2∧Kz w w2:=by
 have own:∀ x,a.lq.ownBlock=some x→∃ c,w.heap[x]? = some (.cells c 3):=fun x hx=>aG h.si.le hx
 have nb:∀ {x:Nat} {c:Array Value} {t:TypeId},w.heap[x]? = some (.cells c t)→t≠44→t≠3→w2.heap[x]? = w.heap[x]?:=fun {x c t} hx ht1 ht2=>(g2.block x (Nat.lt_of_lt_of_le (ae hx) g1.size) fun e=>cO hx h.si.mem ht1 (Option.some.inj e)).trans (g1.block x (ae hx) fun e=>by obtain ⟨c',hc⟩:=own x e.symm;exact cO hx hc ht2 rfl)
 have k:Kz w w2:=fun t ht b c hb=>(nb hb (fun e=>by subst e;revert ht;decide) (fun e=>by subst e;revert ht;decide)).trans hb
 have hs:nV w2 bs bc { S with len:=l } { a with lq:=v }:=by
  refine ⟨m2,aF h.si.ak fun x hx=>?_,aF h.si.be fun x hx=>?_,h.si.bl,fun g l v hl hv=>(h.si.bi g l v hl hv).kz k fun x hx=>?_,aF ho fun x hx=>?_,aF h.si.fe fun x hx=>?_⟩
  ·obtain ⟨c,hc⟩:=aG h.si.ak hx;exact nb hc (by decide) (by decide)
  ·obtain ⟨c,hc⟩:=aG h.si.be hx;exact nb hc (by decide) (by decide)
  ·obtain ⟨c,hc⟩:=(h.si.bi g l v hl hv).obj hx;exact nb hc (by decide) (by decide)
  ·obtain ⟨c,hc⟩:=aG ho hx
   refine g2.block x (ae hc) fun e=>?_
   cases e
   rcases hn bs hx with q | q
   ·obtain ⟨c',hc'⟩:=own bs q
    exact cO hc' h.si.mem (by decide) rfl
   ·have:=ae h.si.mem;omega
  ·obtain ⟨c,hc⟩:=aG h.si.fe hx;exact nb hc (by decide) (by decide)
 refine h.gs ((GS.of g1 fun x e=>.inr (.inr (.inr (.inl e)))).then g2 fun x e=>.inl (Option.some.inj e).symm) hs rfl fun x hx=>?_
 rcases hx with e | e | e | e | e | e
 ·exact .inl (.inl e)
 ·exact .inl (.inr (.inl e))
 ·exact .inl (.inr (.inr (.inl e)))
 ·exact (hn x e).imp (fun e=>.inr (.inr (.inr (.inl e)))) id
 ·exact .inl (.inr (.inr (.inr (.inr (.inl e)))))
 ·exact .inl (.inr (.inr (.inr (.inr (.inr e)))))
theorem dR.ZL (h:dR Λ bs bc S a gv sv B ad w) {v:Value} {l:List Bool} (g1:GB a.fq.ownBlock w w1) (ho:w1.ownsRow 0 4 1 v l.length (l.map Value.bool)) (hn:∀ x,v.ownBlock=some x→a.fq.ownBlock=some x∨w.heap.size≤x) (m2:w2.heap[bs]? = some (.cells (fI bc { S with fell:=l } { a with fq:=v }).toArray 44)) (g2:GB (some bs) w1 w2):dR Λ bs bc { S with fell:=l } { a with fq:=v } gv sv B ad w2∧Kz w w2:=by
 have own:∀ x,a.fq.ownBlock=some x→∃ c,w.heap[x]? = some (.cells c 4):=fun x hx=>aG h.si.fe hx
 have nb:∀ {x:Nat} {c:Array Value} {t:TypeId},w.heap[x]? = some (.cells c t)→t≠44→t≠4→w2.heap[x]? = w.heap[x]?:=fun {x c t} hx ht1 ht2=>(g2.block x (Nat.lt_of_lt_of_le (ae hx) g1.size) fun e=>cO hx h.si.mem ht1 (Option.some.inj e)).trans (g1.block x (ae hx) fun e=>by obtain ⟨c',hc⟩:=own x e.symm;exact cO hx hc ht2 rfl)
 have k:Kz w w2:=fun t ht b c hb=>(nb hb (fun e=>by subst e;revert ht;decide) (fun e=>by subst e;revert ht;decide)).trans hb
 have hs:nV w2 bs bc { S with fell:=l } { a with fq:=v }:=by
  refine ⟨m2,aF h.si.ak fun x hx=>?_,aF h.si.be fun x hx=>?_,h.si.bl,fun g l v hl hv=>(h.si.bi g l v hl hv).kz k fun x hx=>?_,aF h.si.le fun x hx=>?_,aF ho fun x hx=>?_⟩
  ·obtain ⟨c,hc⟩:=aG h.si.ak hx;exact nb hc (by decide) (by decide)
  ·obtain ⟨c,hc⟩:=aG h.si.be hx;exact nb hc (by decide) (by decide)
  ·obtain ⟨c,hc⟩:=(h.si.bi g l v hl hv).obj hx;exact nb hc (by decide) (by decide)
  ·obtain ⟨c,hc⟩:=aG h.si.le hx;exact nb hc (by decide) (by decide)
  ·obtain ⟨c,hc⟩:=aG ho hx
   refine g2.block x (ae hc) fun e=>?_
   cases e
   rcases hn bs hx with q | q
   ·obtain ⟨c',hc'⟩:=own bs q
    exact cO hc' h.si.mem (by decide) rfl
   ·have:=ae h.si.mem;omega
 refine h.gs ((GS.of g1 fun x e=>.inr (.inr (.inr (.inr (.inl e))))).then g2 fun x e=>.inl (Option.some.inj e).symm) hs rfl fun x hx=>?_
 rcases hx with e | e | e | e | e | e
 ·exact .inl (.inl e)
 ·exact .inl (.inr (.inl e))
 ·exact .inl (.inr (.inr (.inl e)))
 ·exact .inl (.inr (.inr (.inr (.inl e))))
 ·exact (hn x e).imp (fun e=>.inr (.inr (.inr (.inr (.inl e))))) id
 ·exact .inl (.inr (.inr (.inr (.inr (.inr e)))))
end
section
variable {Λ:bN} {w w0 w1 w2:World} {bs bc:Nat} {S:Sit} {a:xC} {gv sv:Value} {B:Nat→Nat→Nat} {ad:Nat→Nat→fu}
theorem dR.be' (h:dR Λ bs bc S a gv sv B ad w) {v:Value} {dY:List (List MC)} {bv:List Value} (g0:GB none w w0) (g1:GB a.bq.ownBlock w0 w1) (ho:w1.ownsRow 0 57 1 v dY.length bv) (hv:∀ x,v.ownBlock=some x→a.bq.ownBlock=some x∨w.heap.size≤x) (hl:bv.length=dY.length) (m2:w2.heap[bs]? = some (.cells (fI bc { S with dY:=dY } { a with bq:=v,bv:=bv }).toArray 44)) (g2:GB (some bs) w1 w2)
 (hbi:∀ (g:Nat) (l:List MC) (u:Value),dY[g]? = some l→bv[g]? = some u→(S.dY[g]? = some l∧a.bv[g]? = some u)∨(mQ w0 u l∧∀ x,u.ownBlock=some x→w.heap.size≤x)):dR Λ bs bc { S with dY:=dY } { a with bq:=v,bv:=bv } gv sv B ad w2∧Kz w w2:=by
 have own:∀ x,a.bq.ownBlock=some x→∃ c,w.heap[x]? = some (.cells c 57):=fun x hx=>aG h.si.be hx
 have Jp:∀ x,x<w0.heap.size→some x≠a.bq.ownBlock→x≠bs→w2.heap[x]? = w0.heap[x]?:=fun x hx h1 h2=>(g2.block x (Nat.lt_of_lt_of_le hx g1.size) fun e=>h2 (Option.some.inj e)).trans (g1.block x hx h1)
 have nb:∀ {x:Nat} {c:Array Value} {t:TypeId},w.heap[x]? = some (.cells c t)→t≠44→t≠57→w2.heap[x]? = w.heap[x]?:=fun {x c t} hx ht1 ht2=>(Jp x (ae (g0.get hx nofun)) (fun e=>by obtain ⟨c',hc⟩:=own x e.symm;exact cO hx hc ht2 rfl) (cO hx h.si.mem ht1)).trans (g0.block x (ae hx) nofun)
 have k:Kz w w2:=fun t ht b c hb=>(nb hb (fun e=>by subst e;revert ht;decide) (fun e=>by subst e;revert ht;decide)).trans hb
 have k0:Kz w0 w2:=fun t ht b c hb=>(Jp b (ae hb) (fun e=>by obtain ⟨c',hc⟩:=own b e.symm;exact cO hb (g0.get hc nofun) (fun e=>by subst e;revert ht;decide) rfl) (cO hb (g0.get h.si.mem nofun) fun e=>by subst e;revert ht;decide)).trans hb
 have hs:nV w2 bs bc { S with dY:=dY } { a with bq:=v,bv:=bv }:=by
  refine ⟨m2,aF h.si.ak fun x hx=>?_,aF ho fun x hx=>?_,hl,fun g l u h1 h2=>?_,aF h.si.le fun x hx=>?_,aF h.si.fe fun x hx=>?_⟩
  ·obtain ⟨c,hc⟩:=aG h.si.ak hx;exact nb hc (by decide) (by decide)
  ·obtain ⟨c,hc⟩:=aG ho hx
   refine g2.block x (ae hc) fun e=>?_
   cases e
   rcases hv bs hx with q | q
   ·obtain ⟨c',hc'⟩:=own bs q
    exact cO hc' h.si.mem (by decide) rfl
   ·have:=ae h.si.mem;omega
  ·rcases hbi g l u h1 h2 with ⟨q1,q2⟩ | ⟨q1,q2⟩
   ·exact (h.si.bi g l u q1 q2).kz k fun x hx=>by obtain ⟨c,hc⟩:=(h.si.bi g l u q1 q2).obj hx;exact nb hc (by decide) (by decide)
   ·refine q1.kz k0 fun x hx=>?_
    obtain ⟨c,hc⟩:=q1.obj hx;have:=q2 x hx;refine Jp x (ae hc) (fun e=>?_) (fun e=>?_)
    ·obtain ⟨c',hc'⟩:=own x e.symm;have:=ae hc';omega
    ·subst e;have:=ae h.si.mem;omega
  ·obtain ⟨c,hc⟩:=aG h.si.le hx;exact nb hc (by decide) (by decide)
  ·obtain ⟨c,hc⟩:=aG h.si.fe hx;exact nb hc (by decide) (by decide)
 refine h.gs (((GS.of g0 nofun).then g1 fun x e=>.inr (.inr (.inl e))).then g2 fun x e=>.inl (Option.some.inj e).symm) hs rfl fun x hx=>?_
 rcases hx with e | e | e | e | e | ⟨u,hu,e⟩
 ·exact .inl (.inl e)
 ·exact .inl (.inr (.inl e))
 ·exact (hv x e).imp (fun e=>.inr (.inr (.inl e))) id
 ·exact .inl (.inr (.inr (.inr (.inl e))))
 ·exact .inl (.inr (.inr (.inr (.inr (.inl e)))))
 ·obtain ⟨g,hg⟩:=List.mem_iff_getElem?.1 hu
  have hlt:g<dY.length:=by rw [← hl];exact (List.getElem?_eq_some_iff.1 hg).1
  rcases hbi g dY[g] u (by simp [hlt]) hg with ⟨_,q2⟩ | ⟨_,q2⟩
  ·exact .inl (.inr (.inr (.inr (.inr (.inr ⟨u,List.mem_of_getElem? q2,e⟩)))))
  ·exact .inr (q2 x e)
end
def Sit.new (A:bE) (n sz:Nat):Sit:=⟨aW.new A n sz,[],List.replicate n [],List.replicate (n*sz) 0,List.replicate (n*sz) false,0,false⟩
section
variable {A:bE} (HA:bW A)
include HA
theorem QJ (w:World) (n f:Nat) (hn:1≤n∧n≤4) (hf:f≤2):af Tryz.prog 50 #[.int .i64 n,.int .i64 (2*f+1:Nat)] w (fun v w'=>∃ bs,v=.tuple #[.pointer (some ⟨bs,0,none⟩),.bool true]∧w.heap.size≤bs∧cz (cZ w) bs (Sit.new A n (2*f+1)) w'∧Kz w w'):=by
 refine ah au mixed Tryz.func50 rfl rfl ?_;refine fun w1 bs m1 g1 l1=>?_
 have hq:IntKind.i64.wrap (((2*f+1:Nat):Int).tdiv 2)=((f:Nat):Int):=by
  rw [Int.tdiv_eq_ediv_of_nonneg (Int.natCast_nonneg _),Go.IntWalk.i64_in _ ⟨by omega,by omega⟩];omega
 have hnew:=aaG HA w1 n f hn hf;refine ⟨by decide,?_⟩;have aa2:∀ z:Int,z=(f:Int)→af Tryz.prog 87 #[.int .i64 n,.int .i64 z] w1 _:=fun z hz=>by subst hz;exact hnew
 refine ⟨_,aa2 _ hq,?_⟩;rintro _ w2 ⟨bc,rfl,Y3,hC,k2⟩;obtain ⟨gv,sv,B,ad,hC⟩:=hC;have m12:=(hC.pr bs _ m1).1;have nbs:=(hC.pr bs _ m1).2;refine ⟨_,_,_,m12,rfl,rfl,fun w3 m3 g3=>?_⟩;have k3:Kz w2 w3:=g3.BK fun c t ht hc=>by rw [m12] at hc;injection hc with hc;injection hc with _ hc;subst hc;revert ht;decide
 have h3:dR (cZ w) bs bc ⟨aW.new A n (2*f+1),[],[],[],[],0,false⟩ ⟨.slice none 0 0,.slice none 0 0,.slice none 0 0,.slice none 0 0,[]⟩ gv sv B ad w3:=by
  have so:∀ x,uW bs ⟨.slice none 0 0,.slice none 0 0,.slice none 0 0,.slice none 0 0,[]⟩ x→x=bs:=fun x hx=>by
   rcases hx with e | e | e | e | e | ⟨v,hv,e⟩
   ·exact e
   ·cases e
   ·cases e
   ·cases e
   ·cases e
   ·cases hv
  have co:∀ x,lu (aW.new A n (2*f+1)).n (aW.new A n (2*f+1)).sz B bc sv ad x→x≠bs∧x<w2.heap.size:=fun x hx=>⟨fun e=>nbs (e ▸ hx),by
   rcases hx with rfl | hx | ⟨g,i,hg,hi,hx⟩
   ·exact ae hC.ci.eX
   ·obtain ⟨c,hc⟩:=aG hC.ci.row hx;exact ae hc
   ·exact (hC.ci.rep g i hg hi).lt hx⟩
  refine ⟨⟨m3,eG _ _ _,eG _ _ _,rfl,fun g l v h=>(by simp at h),eG _ _ _,eG _ _ _⟩,hC.ci.keep k3 (fun x hx=>g3.block x (co x hx).2 fun e=>(co x hx).1 (Option.some.inj e)) (fun x c t ht hx=>g3.get hx fun e=>?_),fun x hx=>(by rw [so x hx];exact nbs),fun b o hb=>?_,g3.os.trans (hC.os.trans g1.os),g3.out.trans (hC.out.trans g1.out)⟩
  ·cases e
   rw [m12] at hx;injection hx with hx;injection hx with _ hx;subst hx;revert ht;decide
  ·have hb:w.heap[b]? = some o:=hb
   have hlt:=ae hb;have lbs:w.heap.size≤bs:=l1;obtain ⟨p1,p2⟩:=hC.pr b o (g1.get hb nofun);exact ⟨g3.get p1 fun e=>(by cases e;omega),fun e=>(by have:=so b e;omega),p2⟩
 have K3:Kz w w3:=(g1.kz.trans k2).trans k3;refine ⟨fun m s wk=>∃ (k:Nat) (a:xC),m=n - k∧k≤n∧s=[(6,.pointer (some ⟨bs,0,none⟩)),(9,.int .i64 k)]∧dR (cZ w) bs bc ⟨aW.new A n (2*f+1),[],List.replicate k [],[],[],0,false⟩ a gv sv B ad wk∧Kz w wk,⟨_,_,⟨0,_,rfl,Nat.zero_le _,rfl,h3,K3⟩,rfl,rfl,trivial⟩,?_⟩;rintro m s wk ⟨k,a,rfl,hk,rfl,hS,K⟩;refine ⟨_,_,hS.si.mem,_,rfl,aj (fun c=>?_) (fun c=>?_)⟩
 ·have c1:k<n:=by have:=of_decide_eq_true c;simp only [aW.new] at this;omega
  obtain ⟨ba,wJ,hbq⟩:=ag hS.si.be;have hbe:=hS.si.be;rw [hbq] at hbe;have hmem:=hS.si.mem;refine ⟨_,_,hmem,.slice ba (List.replicate k ([]:List MC)).length wJ,by show (fI _ _ _)[4]? = _;unfold fI;rw [hbq];rfl,fun w4 b4 m4 g4 l4=>?_⟩;have ZM:=aF hbe (w1:=w4) fun x hx=>by obtain ⟨c,hc⟩:=aG hbe hx;exact g4.block x (ae hc) nofun
  refine ⟨_,[.slice none 0 0],ZM,⟨_,_,m4,rfl,rfl,rfl⟩,by simp;omega,fun v' w5 Ed g5 n5=>?_⟩;have mm:w5.heap[bs]? = _:=g5.get (g4.get hmem nofun) fun e=>by
   obtain ⟨c,hc⟩:=aG ZM e.symm;exact cO (g4.get hmem nofun) hc (by decide) rfl
  obtain ⟨va,vc,rfl⟩:=ag Ed;refine ⟨_,_,_,mm,rfl,rfl,fun w6 m6 g6=>?_⟩;have e1:(List.replicate (k+1) ([]:List MC)).length=(List.replicate k ([]:List MC)).length+1:=by simp
  obtain ⟨h6,k6⟩:=hS.be' (dY:=List.replicate (k+1) []) g4 (by rw [hbq];exact g5) (by rw [e1];exact Ed) (fun x hx=>by rw [hbq];rcases n5 x hx with e | e;exact .inl e;exact .inr (Nat.le_trans g4.size e)) (by rw [List.length_append,hS.si.bl];simp) m6 g6 (fun g l u q1 q2=>by
   have hg:g<k+1:=by have:=(List.getElem?_eq_some_iff.1 q1).1;simpa using this
   have hbl:a.bv.length=k:=by rw [hS.si.bl];simp
   by_cases e:g<k
   ·refine .inl ⟨?_,?_⟩
    ·rw [List.getElem?_replicate,if_pos hg] at q1;show (List.replicate k _)[g]? = _;rw [List.getElem?_replicate,if_pos e];exact q1
    ·rw [List.getElem?_append_left (by omega)] at q2;exact q2
   ·have e:g=k:=by omega
    subst e;rw [List.getElem?_append_right (by omega),hbl,Nat.sub_self] at q2;cases q2
    rw [List.getElem?_replicate,if_pos hg] at q1;cases q1
    exact .inr ⟨⟨[],rfl,eG _ _ _,fun i c p h=>by simp at h⟩,nofun⟩)
  exact ⟨by omega,_,_,⟨k+1,_,rfl,by omega,rfl,h6,K.trans k6⟩,⟨rfl,rfl,trivial⟩,by omega⟩
 ·have c1:k=n:=by have:=of_decide_eq_false c;simp only [aW.new] at this;omega
  subst c1;have hle:k*(2*f+1)≤20:=Nat.le_trans (Nat.mul_le_mul hn.2 (show 2*f+1≤5 by omega)) (by decide);have hcast:(k:Int)*((2*f+1:Nat):Int)=((k*(2*f+1):Nat):Int):=(Int.natCast_mul _ _).symm;refine ⟨fun m s wk=>∃ (j:Nat) (a:xC),m=k*(2*f+1) - j∧j≤k*(2*f+1)∧s=[(6,.pointer (some ⟨bs,0,none⟩)),(10,.int .i64 j)]∧dR (cZ w) bs bc ⟨aW.new A k (2*f+1),[],List.replicate k [],List.replicate j 0,List.replicate j false,0,false⟩ a gv sv B ad wk∧Kz w wk,⟨_,_,⟨0,_,rfl,Nat.zero_le _,rfl,hS,K⟩,rfl,rfl,trivial⟩,?_⟩;clear hS K;rintro m s wk ⟨j,a,rfl,hj,rfl,hS,K⟩;have hmem:=hS.si.mem;have hc2:((aW.new A k (2*f+1)).n:Int)*((aW.new A k (2*f+1)).sz:Int)=((k*(2*f+1):Nat):Int):=hcast;refine ⟨by kernel_rfl,_,_,hmem,_,rfl,_,_,hmem,_,rfl,⟨by show _≤((aW.new A k (2*f+1)).n:Int)*((aW.new A k (2*f+1)).sz:Int);omega,by show ((aW.new A k (2*f+1)).n:Int)*((aW.new A k (2*f+1)).sz:Int)≤_;omega⟩,aj (fun d=>?_) (fun d=>?_)⟩
  ·have d1:j<k*(2*f+1):=by have:=of_decide_eq_true d;rw [show (_:Int)*_=_ from hc2] at this;omega
   obtain ⟨la,jJ,hlq⟩:=ag hS.si.le;have hle1:=hS.si.le;rw [hlq] at hle1;refine ⟨_,_,hmem,.slice la (List.replicate j 0).length jJ,by show (fI _ _ _)[5]? = _;unfold fI;rw [hlq];rfl,fun w4 b4 m4 g4 l4=>?_⟩;have ZN:=aF hle1 (w1:=w4) fun x hx=>by obtain ⟨c,hc⟩:=aG hle1 hx;exact g4.block x (ae hc) nofun
   refine ⟨_,[.int .i64 0],ZN,⟨_,_,m4,rfl,rfl,rfl⟩,by simp;omega,fun v' w5 Ed g5 n5=>?_⟩;have mm:w5.heap[bs]? = _:=g5.get (g4.get hmem nofun) fun e=>by
    obtain ⟨c,hc⟩:=aG ZN e.symm;exact cO (g4.get hmem nofun) hc (by decide) rfl
   obtain ⟨va,vc,rfl⟩:=ag Ed;refine ⟨_,_,_,mm,rfl,rfl,fun w6 m6 g6=>?_⟩;have e1:(List.replicate (j+1) 0).length=(List.replicate j 0).length+1:=by simp
   obtain ⟨h6,k6⟩:=(hS.ax g4).le' (l:=List.replicate (j+1) 0) (by rw [hlq];exact g5) (by rw [e1,List.replicate_succ',List.map_append];exact Ed) (fun x hx=>by rw [hlq];exact n5 x hx) m6 g6;have Om:=h6.si.mem;obtain ⟨fa,adw,Vb⟩:=ag h6.si.fe;have TQ:=h6.si.fe;rw [Vb] at TQ;refine ⟨_,_,Om,.slice fa (List.replicate j false).length adw,by show (fI _ _ _)[6]? = _;unfold fI;rw [Vb];rfl,fun w7 b7 m7 g7 l7=>?_⟩;have ZO:=aF TQ (w1:=w7) fun x hx=>by obtain ⟨c,hc⟩:=aG TQ hx;exact g7.block x (ae hc) nofun
   refine ⟨_,[.bool false],ZO,⟨_,_,m7,rfl,rfl,rfl⟩,by simp;omega,fun v8 w8 ho8 g8 n8=>?_⟩;have mm8:w8.heap[bs]? = _:=g8.get (g7.get Om nofun) fun e=>by
    obtain ⟨c,hc⟩:=aG ZO e.symm;exact cO (g7.get Om nofun) hc (by decide) rfl
   obtain ⟨va8,vc8,rfl⟩:=ag ho8;refine ⟨_,_,_,mm8,rfl,rfl,fun w9 m9 g9=>?_⟩;have e2:(List.replicate (j+1) false).length=(List.replicate j false).length+1:=by simp
   obtain ⟨h9,k9⟩:=(h6.ax g7).ZL (l:=List.replicate (j+1) false) (by rw [Vb];exact g8) (by rw [e2,List.replicate_succ',List.map_append];exact ho8) (fun x hx=>by rw [Vb];exact n8 x hx) m9 g9;exact ⟨by omega,_,_,⟨j+1,_,rfl,by omega,rfl,h9,(((K.trans g4.kz).trans k6).trans g7.kz).trans k9⟩,⟨rfl,rfl,trivial⟩,by omega⟩
  ·have d1:j=k*(2*f+1):=by have:=of_decide_eq_false d;rw [show (_:Int)*_=_ from hc2] at this;omega
   subst d1;exact ⟨bs,rfl,l1,⟨_,_,_,_,_,_,hS⟩,K⟩
end
def oI (q:bH):MM:={ bf 1 with q:=q }
structure wh (A:bE):Prop where
 mask:∀ (w:World) (q:bH),A.gc (bZ q)→af Tryz.prog 43 #[.agg (dK (oI q) (.slice none 0 0) (.slice none 0 0) (.slice none 0 0) (.slice none 0 0) (.slice none 0 0)).toArray] w (fun v w'=>v=.tuple #[.string (A.enc (oI q)),.int .i64 0]∧GB none w w')
 small:∀ q,A.gc (bZ q)→(A.enc (oI q)).size≤1000
def Sit.sends (A:bE) (S:Sit) (q:bH) (g i:Nat):Sit:={ S with C:=S.C.send g i (A.enc (oI q)),asks:=S.asks++[⟨q,g,S.C.q.length⟩] }
theorem aW.xD (C:aW) (g i:Nat) (d:ByteArray):(C.send g i d).n=C.n∧(C.send g i d).sz=C.sz:=by unfold aW.send;split <;> exact ⟨rfl,rfl⟩
section
variable {A:bE} (HL:wh A) {Λ:bN} {w:World} {bs:Nat} {S:Sit}
include HL
theorem Mo (h:cz Λ bs S w) (hF:S.C.aN A) {q:bH} (hq:A.gc (bZ q)) {g i:Nat} (hg:g<S.C.n) (hi:i<S.C.sz) (hb:S.asks.length≤1000000):af Tryz.prog 20 #[.pointer (some ⟨bs,0,none⟩),.agg q.cells.toArray,.agg #[.int .u8 g,.int .u8 i]] w (fun v w'=>v=.tuple #[]∧cz Λ bs (S.sends A q g i) w'∧Kz w w'):=by
 obtain ⟨bc,a,gv,sv,B,ad,h⟩:=h;have hn:=hF.n;have hz:=hF.sz;have hlen:=hF.len;refine ah au mixed Tryz.func20 rfl rfl ?_;refine fun w1 b1 m1 g1 l1 w2 b2 m2 g2 l2=>?_
 refine ⟨_,_,g2.get m1 nofun,q.cells,rfl,rfl,_,HL.mask w2 q hq,?_⟩;rintro _ w3 ⟨rfl,g3⟩;have G3:=(g1.trans g2).trans g3;have h3:=h.ax G3;have m13:=(g2.trans g3).get m1 nofun;have m23:=g3.get m2 nofun;have ZP:w3.heap[b1]? = some (.cells q.cells.toArray 65):=m13;have TS:w3.heap[b2]? = some (.cells #[.int .u8 g,.int .u8 i] 48):=m23;have nc:∀ {x:Nat} {c:Array Value} {t:TypeId},w3.heap[x]? = some (.cells c t)→w.heap.size≤x→¬ lu S.C.n S.C.sz B bc sv ad x:=fun {x c t} hx hl hC=>by
  rcases hC with e | e | ⟨g',i',p1,p2,p3⟩
  ·subst e;have:=ae h.ci.eX;omega
  ·obtain ⟨c',hc'⟩:=aG h.ci.row e;have:=ae hc';omega
  ·have:=(h.ci.rep g' i' p1 p2).lt p3;omega
 have lb1:w.heap.size≤b1:=l1;have lb2:w.heap.size≤b2:=Nat.le_trans g1.size l2;refine ⟨by kernel_rfl,_,_,h3.si.mem,_,rfl,_,_,TS,[.int .u8 g,.int .u8 i],rfl,rfl,_,PX h3.enter hF.n hF.sz g i (by omega) (by omega) (A.enc (oI q)),?_⟩;rintro _ w4 ⟨rfl,hC4,k4⟩;have pr4:∀ {x:Nat} {o:Obj},w3.heap[x]? = some o→¬ lu S.C.n S.C.sz B bc sv ad x→w4.heap[x]? = some o:=fun {x o} hx hno=>by
  obtain ⟨_,_,_,_,h'⟩:=hC4;exact (h'.pr x o (by unfold yI;dsimp only;rw [if_neg hno];exact hx)).1
 have m14:=pr4 ZP (nc ZP lb1);have m24:=pr4 TS (nc TS lb2);have sm:=HL.small q hq;rw [if_pos ⟨⟨hg,hi⟩,by omega⟩,if_pos ⟨hg,hi⟩,if_neg (by omega)];obtain ⟨en,ez⟩:=S.C.xD g i (A.enc (oI q));have h4:=h3.leave en ez hC4 k4;obtain ⟨bc',a',P8,dw,B',jh,h4⟩:=h4;obtain ⟨C,asks,dY,len,fell,next,bad⟩:=S;cases bad
 all_goals
  have hmem:=h4.si.mem;refine ⟨_,_,hmem,_,rfl,_,_,_,hmem,rfl,rfl,fun w5 m5 g5=>?_⟩;obtain ⟨h5,k5⟩:=h4.num (k:=next) m5 g5;have m15:w5.heap[b1]? = _:=g5.get m14 fun e=>cO m14 hmem (by decide) (Option.some.inj e)
  have tK:w5.heap[b2]? = _:=g5.get m24 fun e=>cO m24 hmem (by decide) (Option.some.inj e)
  have rQ:=h5.si.mem;obtain ⟨aa,TT,haq⟩:=ag h5.si.ak;have hak:=h5.si.ak;rw [haq] at hak;refine ⟨by kernel_rfl,_,_,rQ,.slice aa asks.length TT,by show (fI _ _ _)[3]? = _;unfold fI;rw [haq];rfl,_,_,m15,q.cells,rfl,rfl,_,_,tK,_,rfl,fun w6 b6 m6 g6 l6=>?_⟩;have Oo:=aF hak (w1:=w6) fun x hx=>by obtain ⟨c,hc⟩:=aG hak hx;exact g6.block x (ae hc) nofun
  refine ⟨⟨g6.get tK nofun,g6.get m15 nofun,g6.get rQ nofun,trivial⟩,?_⟩;refine ⟨_,(Ask.mk q g C.q.length).cells,Oo,⟨_,_,m6,rfl,rfl,rfl⟩,by show asks.length+1≤_;simp only at hb;omega,fun v' w7 FZ g7 n7=>?_⟩;have mm:w7.heap[bs]? = _:=g7.get (g6.get rQ nofun) fun e=>by
   obtain ⟨c,hc⟩:=aG Oo e.symm;exact cO (g6.get rQ nofun) hc (by decide) rfl
  obtain ⟨va,vc,rfl⟩:=ag FZ;have m57:w7.heap[b1]? = _:=g7.get (g6.get m15 nofun) fun e=>by
   obtain ⟨c,hc⟩:=aG Oo e.symm;exact cO (g6.get m15 nofun) hc (by decide) rfl
  have Gx:w7.heap[b2]? = _:=g7.get (g6.get tK nofun) fun e=>by
   obtain ⟨c,hc⟩:=aG Oo e.symm;exact cO (g6.get tK nofun) hc (by decide) rfl
  refine ⟨_,_,_,mm,rfl,rfl,fun w8 m8 g8=>?_⟩;obtain ⟨h8,k8⟩:=(h5.ax g6).ak' (l:=asks++[⟨q,g,C.q.length⟩]) (by rw [haq];exact g7) (by rw [List.length_append,List.map_append,List.flatten_append];exact FZ) (fun x hx=>by rw [haq];exact n7 x hx) m8 g8;exact ⟨rfl,⟨_,_,_,_,_,_,h8⟩,(((G3.kz.trans k4).trans k5).trans g6.kz).trans k8⟩
end
def Sit.one (A:bE) (S:Sit):Sit:={ S with C:=S.C.fM A S.next,next:=S.next+1 }
def Sit.all (A:bE):Nat→Sit→Sit
 | 0,S=>S
 | n+1,S=>if S.next<S.C.q.length then Sit.all A n (S.one A) else S
theorem Sit.yK {A:bE} {S:Sit} (h:¬ S.next<S.C.q.length):∀ n,S.all A n=S
 | 0=>rfl
 | n+1=>by unfold Sit.all;rw [if_neg h]
theorem Sit.JN {A:bE} {S:Sit} (h:S.next<S.C.q.length) (n:Nat):S.all A (n+1)=(S.one A).all A n:=by
 show (if S.next<S.C.q.length then Sit.all A n (S.one A) else S)=_;rw [if_pos h]
theorem Sit.Fv (A:bE):∀ (i m:Nat) (S:Sit),S.all A (i+m)=(S.all A i).all A m
 | 0,m,S=>by rw [Nat.zero_add];rfl
 | i+1,m,S=>by
  rw [Nat.add_right_comm];by_cases h:S.next<S.C.q.length
  ·rw [Sit.JN h,Sit.JN h];exact Sit.Fv A i m (S.one A)
  ·rw [Sit.yK h,Sit.yK h,Sit.yK h]
theorem aW.nJ (A:bE) (C:aW) (k:Int):(C.fM A k).n=C.n∧(C.fM A k).sz=C.sz:=by
 unfold aW.fM;split
 ·unfold aW.nH
  split
  ·exact ⟨rfl,rfl⟩
  ·split <;> exact ⟨rfl,rfl⟩
 ·exact ⟨rfl,rfl⟩
theorem aW.sJ (A:bE) (C:aW) (g i:Nat):(C.tick A g i).n=C.n∧(C.tick A g i).sz=C.sz:=by unfold aW.tick;split <;> exact ⟨rfl,rfl⟩
theorem aW.Bl (A:bE) (C:aW) (g i:Nat):(C.gL A g i).n=C.n∧(C.gL A g i).sz=C.sz:=by unfold aW.gL;split <;> exact ⟨rfl,rfl⟩
section
variable {A:bE} (HA:bW A) (HN:je A) {Λ:bN} {w:World} {bs:Nat} {S:Sit}
include HA HN
theorem Sit.JO:∀ (n:Nat) {S:Sit},S.C.aN A→(S.all A n).C.aN A
 | 0,_,h=>h
 | n+1,S,h=>by
  unfold Sit.all;split
  ·exact Sit.JO n (S:=S.one A) (h.fM HA HN (S.next:Int))
  ·exact h
theorem Vd (h:cz Λ bs S w) (hF:S.C.aN A) (most:Nat) (hm:most≤1000000):gq Tryz.prog 35 #[.pointer (some ⟨bs,0,none⟩),.int .i64 most] w (fun v w'=>v=.bool true∧cz Λ bs (S.all A most) w'∧Kz w w'):=by
 refine rO au mixed Tryz.func35 rfl rfl ?_;refine ⟨fun m s wk=>∃ i:Nat,m=most - i∧i≤most∧s=[(0,.pointer (some ⟨bs,0,none⟩)),(1,.int .i64 most),(5,.int .i64 i)]∧cz Λ bs (S.all A i) wk∧Kz w wk,⟨_,_,⟨0,rfl,Nat.zero_le _,rfl,h,Kz.refl _⟩,rfl,rfl,rfl,trivial⟩,?_⟩;rintro m s wk ⟨i,rfl,hi,rfl,hS,K⟩;have Mq:=Sit.JO HA HN i hF;have hadd:=Sit.Fv A i (most - i) S;rw [Nat.add_sub_cancel' hi] at hadd;have hone:(S.all A i).next<(S.all A i).C.q.length→S.all A (i+1)=(S.all A i).one A:=fun h=>by
  rw [Sit.Fv,Sit.JN h];rfl
 generalize hT:S.all A i=T at hS Mq hadd hone;obtain ⟨bc,a,gv,sv,B,ad,hS⟩:=hS;have hlen:=Mq.len;have hmem:=hS.si.mem;refine ⟨by kernel_rfl,?_⟩;refine aj (fun c=>?_) (fun c=>?_)
 ·have c1:i<most:=by simp at c;omega
  refine ⟨_,_,hmem,_,rfl,_,_,hmem,_,rfl,_,(nu hS.enter hlen 0 (by decide) (by decide)).x,?_⟩;rintro lv w1 ⟨o1,g1,_⟩;have e0:T.C.q.length - min (0:Int).toNat T.C.q.length=T.C.q.length:=by simp
  rw [e0] at o1;obtain ⟨la,lc,rfl⟩:=ag o1;have hS1:=hS.ax g1;have Hf:=hS1.si.mem;refine ⟨⟨Hf,Hf,trivial⟩,?_⟩;refine aj (fun d=>?_) (fun d=>?_)
  ·have d1:T.next<T.C.q.length:=by have:=of_decide_eq_true d;omega
   refine ⟨by kernel_rfl,_,_,Hf,_,rfl,_,_,Hf,_,rfl,_,Au HA HN hS1.enter Mq (T.next:Int),?_⟩;rintro _ w2 ⟨rfl,hC2,k2⟩;rw [if_pos ⟨by omega,by omega⟩];obtain ⟨en,ez⟩:=aW.nJ A T.C (T.next:Int);obtain ⟨bc',a',P8,dw,B',jh,h2⟩:=hS1.leave en ez hC2 k2;have Ve:=h2.si.mem;refine ⟨_,_,Ve,_,rfl,⟨by show _≤((T.next:Nat):Int)+1;omega,by show ((T.next:Nat):Int)+1≤_;omega⟩,_,_,_,Ve,rfl,rfl,fun w3 m3 g3=>?_⟩;obtain ⟨h3,k3⟩:=h2.num (k:=T.next+1) (b:=T.bad) m3 g3;refine ⟨by omega,_,_,⟨i+1,rfl,by omega,rfl,?_,((K.trans g1.kz).trans k2).trans k3⟩,⟨rfl,rfl,rfl,trivial⟩,by omega⟩;rw [hone d1];exact ⟨_,_,_,_,_,_,h3⟩
  ·have d1:¬ T.next<T.C.q.length:=by have:=of_decide_eq_false d;omega
   refine ⟨rfl,?_,K.trans g1.kz⟩;rw [hadd,Sit.yK d1];exact ⟨_,_,_,_,_,_,hS1⟩
 ·have c1:i=most:=by simp at c;omega
  subst c1;rw [hT];exact ⟨rfl,⟨_,_,_,_,_,_,hS⟩,K⟩
end
def Sit.jD (A:bE):Nat→Sit→Sit
 | 0,S=>S
 | g+1,S=>{ S.jD A g with C:=(S.jD A g).C.tick A g 0 }
def Sit.round (A:bE) (S:Sit):Sit:=(S.jD A S.C.n).all A 20000
section
variable {A:bE} (HA:bW A) (HN:je A) {Λ:bN} {w:World} {bs:Nat} {S:Sit}
theorem Sit.xE (S:Sit):∀ g,(S.jD A g).C.n=S.C.n∧(S.jD A g).C.sz=S.C.sz
 | 0=>⟨rfl,rfl⟩
 | g+1=>⟨(aW.sJ A _ _ _).1.trans (Sit.xE S g).1,(aW.sJ A _ _ _).2.trans (Sit.xE S g).2⟩
include HA HN
theorem Sit.Ez (h:S.C.aN A):∀ g,(S.jD A g).C.aN A
 | 0=>h
 | g+1=>(Sit.Ez h g).tick HA HN _ _
theorem Fw (h:cz Λ bs S w) (hF:S.C.aN A) (hz:0<S.C.sz):gq Tryz.prog 14 #[.pointer (some ⟨bs,0,none⟩)] w (fun v w'=>v=.bool true∧cz Λ bs (S.round A) w'∧Kz w w'):=by
 refine rO au mixed Tryz.func14 rfl rfl ?_;refine ⟨fun m s wk=>∃ g:Nat,m=S.C.n - g∧g≤S.C.n∧s=[(0,.pointer (some ⟨bs,0,none⟩)),(3,.int .i64 g)]∧cz Λ bs (S.jD A g) wk∧Kz w wk,⟨_,_,⟨0,rfl,Nat.zero_le _,rfl,h,Kz.refl _⟩,rfl,rfl,trivial⟩,?_⟩;rintro m s wk ⟨g,rfl,hg,rfl,hS,K⟩;have hFg:=Sit.Ez HA HN hF g;obtain ⟨en,ez⟩:=Sit.xE (A:=A) S g;have Oq:S.jD A (g+1)={ S.jD A g with C:=(S.jD A g).C.tick A g 0 }:=rfl;have hrd:S.round A=(S.jD A S.C.n).all A 20000:=rfl;have jr:=hF.n;obtain ⟨bc,a,gv,sv,B,ad,hS⟩:=hS;have hmem:=hS.si.mem;refine ⟨_,_,hmem,_,rfl,aj (fun c=>?_) (fun c=>?_)⟩
 ·have c1:g<S.C.n:=by have:=of_decide_eq_true c;omega
  refine ⟨_,_,hmem,_,rfl,.inl ⟨by omega,_,PZ HA hS.enter hFg g 0 (by omega) (by omega),?_⟩⟩;rintro _ w1 ⟨rfl,O3,k1⟩;rw [if_pos ⟨by omega,by omega⟩];obtain ⟨en1,ez1⟩:=aW.sJ A (S.jD A g).C g 0;exact ⟨by omega,_,_,⟨g+1,rfl,by omega,rfl,hS.leave en1 ez1 O3 k1,K.trans k1⟩,⟨rfl,rfl,trivial⟩,by omega⟩
 ·have c1:g=S.C.n:=by have:=of_decide_eq_false c;omega
  subst c1;refine ⟨_,Vd HA HN ⟨_,_,_,_,_,_,hS⟩ hFg 20000 (by decide),?_⟩;rintro _ w1 ⟨rfl,h1,k1⟩;exact ⟨rfl,h1,K.trans k1⟩
end
end
end Go.Proofs.YtignemioillaiabGreat
