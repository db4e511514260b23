/- A site's lists are laid anew. -/
import Derived.Test.YtignemioillaiabGreatG44
namespace Go.Proofs.YtignemioillaiabGreat
set_option maxHeartbeats 8000000
set_option maxRecDepth 100000
section
open Go Go.Conc
section
variable {Λ:bU} {w w' w1 w2:World} {bs bc:Nat} {S S':Sit} {a a':zk} {gv sv:Value} {B:Nat->Nat->Nat} {ad:Nat->Nat->fH}
theorem GS.of {P:Nat->Prop} {r:Option Nat} (g:GB r w w') (hr:∀ x,r=some x->P x):GS P w w':=⟨g.os,g.out,g.size,λ x hx hn=>g.block x hx λ e=>hn (hr x e.symm)⟩
theorem GS.then {P:Nat->Prop} {r:Option Nat} (h:GS P w w1) (g:GB r w1 w2) (hr:∀ x,r=some x->P x):GS P w w2:=⟨g.os.trans h.os,g.out.trans h.out,Nat.le_trans h.size g.size,λ x hx hn=>(g.block x (Nat.lt_of_lt_of_le hx h.size) λ e=>hn (hr x e.symm)).trans (h.block x hx hn)⟩
theorem gU.gs (h:gU Λ bs bc S a gv sv B ad w) (g:GS (wP bs a) w w') (hs:nR w' bs bc S' a') (hC:S'.C=S.C) (hn:∀ x,wP bs a' x->wP bs a x\/w.heap.size<=x):gU Λ bs bc S' a' gv sv B ad w'/\Kz w w':=by
 have kt:∀ {t:TypeId} {b:Nat} {c:Array Value},t ∉ Vr->w.heap[b]? = some (.cells c t)->w'.heap[b]? = some (.cells c t):=λ {t b c} ht hb=>(g.block b (ag hb) λ e=>by
  obtain ⟨c',t',h1,h2⟩:=h.si.typ e;rw [hb] at h1;injection h1 with h1;injection h1 with _ h1;subst h1;exact ht h2).trans hb
 have k:Kz w w':=λ t ht b c hb=>kt (λ e=>(QT e).1 ht) hb
 have cl:∀ x,mh S.C.n S.C.sz B bc sv ad x->x<w.heap.size:=λ x hx=>by
  rcases hx with rfl | hx | ⟨g,i,hg,hi,hx⟩
  ·exact ag h.ci.eH
  ·obtain ⟨c,hc⟩:=aD h.ci.row hx;exact ag hc
  ·exact (h.ci.rep g i hg hi).lt hx
 have c':=h.ci.keep k (λ x hx=>g.block x (cl x hx) λ e=>h.dj x e hx) λ x c t ht hx=>kt (λ e=>(QT e).2 ht) hx
 refine ⟨⟨hs,by rw [hC];exact c',λ x hx hc=>?_,λ b o hb=>⟨(g.block b (ag (h.pr b o hb).1) (h.pr b o hb).2.1).trans (h.pr b o hb).1,λ hx=>?_,by rw [hC];exact (h.pr b o hb).2.2⟩,g.os.trans h.os,g.out.trans h.out⟩,k⟩
 ·rw [hC] at hc
  rcases hn x hx with e | e
  ·exact h.dj x e hc
  ·have:=cl x hc;omega
 ·rcases hn b hx with e | e
  ·exact (h.pr b o hb).2.1 e
  ·have:=ag (h.pr b o hb).1;omega
theorem nR.num (h:nR w bs bc S a) {k:Nat} {b:Bool} (m:w'.heap[bs]? = some (.cells (gp bc { S with next:=k,bad:=b } a).toArray 44)) (g:GB (some bs) w w'):nR w' bs bc { S with next:=k,bad:=b } a:=by
 have nb:∀ {x:Nat} {c:Array Value} {t:TypeId},w.heap[x]? = some (.cells c t)->t≠44->w'.heap[x]? = w.heap[x]?:=λ hx ht=>g.block _ (ag hx) λ e=>df hx h.mem ht (Option.some.inj e)
 have k:Kz w w':=λ t ht b c hb=>(nb hb λ e=>by subst e;revert ht;decide).trans hb
 refine ⟨m,aA h.ak λ x hx=>?_,aA h.be λ x hx=>?_,h.bl,λ g l v hl hv=>(h.bi g l v hl hv).kz k λ x hx=>?_,aA h.le λ x hx=>?_,aA h.fe λ x hx=>?_⟩
 ·obtain ⟨c,hc⟩:=aD h.ak hx;exact nb hc (by decide)
 ·obtain ⟨c,hc⟩:=aD h.be hx;exact nb hc (by decide)
 ·obtain ⟨c,hc⟩:=(h.bi g l v hl hv).obj hx;exact nb hc (by decide)
 ·obtain ⟨c,hc⟩:=aD h.le hx;exact nb hc (by decide)
 ·obtain ⟨c,hc⟩:=aD h.fe hx;exact nb hc (by decide)
theorem gU.num (h:gU Λ bs bc S a gv sv B ad w) {k:Nat} {b:Bool} (m:w'.heap[bs]? = some (.cells (gp bc { S with next:=k,bad:=b } a).toArray 44)) (g:GB (some bs) w w'):gU Λ bs bc { S with next:=k,bad:=b } a gv sv B ad w'/\Kz w w' :=
 h.gs (GS.of g λ _x e=>.inl (Option.some.inj e).symm) (h.si.num m g) rfl λ _x hx=>.inl hx
theorem gU.ak' (h:gU Λ bs bc S a gv sv B ad w) {v:Value} {l:List Ask} (g1:GB a.aq.ownBlock w w1) (ho:w1.ownsRow 0 67 9 v l.length (l.map Ask.cells).flatten) (hn:∀ x,v.ownBlock=some x->a.aq.ownBlock=some x\/w.heap.size<=x) (m2:w2.heap[bs]? = some (.cells (gp bc { S with asks:=l } { a with aq:=v }).toArray 44)) (g2:GB (some bs) w1 w2):gU Λ bs bc { S with asks:=l } { a with aq:=v } gv sv B ad w2/\Kz w w2:=by
 have own:∀ x,a.aq.ownBlock=some x->∃ c,w.heap[x]? = some (.cells c 67):=λ x hx=>aD h.si.ak hx
 have nb:∀ {x:Nat} {c:Array Value} {t:TypeId},w.heap[x]? = some (.cells c t)->t≠44->t≠67->w2.heap[x]? = w.heap[x]?:=λ {x c t} hx ht1 ht2=>(g2.block x (Nat.lt_of_lt_of_le (ag hx) g1.size) λ e=>df hx h.si.mem ht1 (Option.some.inj e)).trans (g1.block x (ag hx) λ e=>by obtain ⟨c',hc⟩:=own x e.symm;exact df hx hc ht2 rfl)
 have k:Kz w w2:=λ t ht b c hb=>(nb hb (λ e=>by subst e;revert ht;decide) (λ e=>by subst e;revert ht;decide)).trans hb
 have hs:nR w2 bs bc { S with asks:=l } { a with aq:=v }:=by
  refine ⟨m2,aA ho λ x hx=>?_,aA h.si.be λ x hx=>?_,h.si.bl,λ g l v hl hv=>(h.si.bi g l v hl hv).kz k λ x hx=>?_,aA h.si.le λ x hx=>?_,aA h.si.fe λ x hx=>?_⟩
  ·obtain ⟨c,hc⟩:=aD ho hx
   refine g2.block x (ag hc) λ e=>?_
   cases e
   rcases hn bs hx with q | q
   ·obtain ⟨c',hc'⟩:=own bs q
    exact df hc' h.si.mem (by decide) rfl
   ·have:=ag h.si.mem;omega
  ·obtain ⟨c,hc⟩:=aD h.si.be hx;exact nb hc (by decide) (by decide)
  ·obtain ⟨c,hc⟩:=(h.si.bi g l v hl hv).obj hx;exact nb hc (by decide) (by decide)
  ·obtain ⟨c,hc⟩:=aD h.si.le hx;exact nb hc (by decide) (by decide)
  ·obtain ⟨c,hc⟩:=aD h.si.fe hx;exact nb hc (by decide) (by decide)
 refine h.gs ((GS.of g1 λ x e=>.inr (.inl e)).then g2 λ x e=>.inl (Option.some.inj e).symm) hs rfl λ x hx=>?_
 rcases hx with e | e | e | e | e | e
 ·exact .inl (.inl e)
 ·exact (hn x e).imp (λ e=>.inr (.inl e)) id
 ·exact .inl (.inr (.inr (.inl e)))
 ·exact .inl (.inr (.inr (.inr (.inl e))))
 ·exact .inl (.inr (.inr (.inr (.inr (.inl e)))))
 ·exact .inl (.inr (.inr (.inr (.inr (.inr e)))))
theorem gU.le' (h:gU Λ bs bc S a gv sv B ad w) {v:Value} {l:List Nat} (g1:GB a.lq.ownBlock w w1) (ho:w1.ownsRow 0 3 1 v l.length (l.map λ k=>Value.int .i64 (k:Nat))) (hn:∀ x,v.ownBlock=some x->a.lq.ownBlock=some x\/w.heap.size<=x) (m2:w2.heap[bs]? = some (.cells (gp bc { S with len:=l } { a with lq:=v }).toArray 44)) (g2:GB (some bs) w1 w2):gU Λ bs bc { S with len:=l } { a with lq:=v } gv sv B ad w2/\Kz w w2:=by
 have own:∀ x,a.lq.ownBlock=some x->∃ c,w.heap[x]? = some (.cells c 3):=λ x hx=>aD h.si.le hx
 have nb:∀ {x:Nat} {c:Array Value} {t:TypeId},w.heap[x]? = some (.cells c t)->t≠44->t≠3->w2.heap[x]? = w.heap[x]?:=λ {x c t} hx ht1 ht2=>(g2.block x (Nat.lt_of_lt_of_le (ag hx) g1.size) λ e=>df hx h.si.mem ht1 (Option.some.inj e)).trans (g1.block x (ag hx) λ e=>by obtain ⟨c',hc⟩:=own x e.symm;exact df hx hc ht2 rfl)
 have k:Kz w w2:=λ t ht b c hb=>(nb hb (λ e=>by subst e;revert ht;decide) (λ e=>by subst e;revert ht;decide)).trans hb
 have hs:nR w2 bs bc { S with len:=l } { a with lq:=v }:=by
  refine ⟨m2,aA h.si.ak λ x hx=>?_,aA h.si.be λ x hx=>?_,h.si.bl,λ g l v hl hv=>(h.si.bi g l v hl hv).kz k λ x hx=>?_,aA ho λ x hx=>?_,aA h.si.fe λ x hx=>?_⟩
  ·obtain ⟨c,hc⟩:=aD h.si.ak hx;exact nb hc (by decide) (by decide)
  ·obtain ⟨c,hc⟩:=aD h.si.be hx;exact nb hc (by decide) (by decide)
  ·obtain ⟨c,hc⟩:=(h.si.bi g l v hl hv).obj hx;exact nb hc (by decide) (by decide)
  ·obtain ⟨c,hc⟩:=aD ho hx
   refine g2.block x (ag hc) λ e=>?_
   cases e
   rcases hn bs hx with q | q
   ·obtain ⟨c',hc'⟩:=own bs q
    exact df hc' h.si.mem (by decide) rfl
   ·have:=ag h.si.mem;omega
  ·obtain ⟨c,hc⟩:=aD h.si.fe hx;exact nb hc (by decide) (by decide)
 refine h.gs ((GS.of g1 λ x e=>.inr (.inr (.inr (.inl e)))).then g2 λ x e=>.inl (Option.some.inj e).symm) hs rfl λ x hx=>?_
 rcases hx with e | e | e | e | e | e
 ·exact .inl (.inl e)
 ·exact .inl (.inr (.inl e))
 ·exact .inl (.inr (.inr (.inl e)))
 ·exact (hn x e).imp (λ e=>.inr (.inr (.inr (.inl e)))) id
 ·exact .inl (.inr (.inr (.inr (.inr (.inl e)))))
 ·exact .inl (.inr (.inr (.inr (.inr (.inr e)))))
theorem gU.ZM (h:gU Λ bs bc S a gv sv B ad w) {v:Value} {l:List Bool} (g1:GB a.fq.ownBlock w w1) (ho:w1.ownsRow 0 4 1 v l.length (l.map Value.bool)) (hn:∀ x,v.ownBlock=some x->a.fq.ownBlock=some x\/w.heap.size<=x) (m2:w2.heap[bs]? = some (.cells (gp bc { S with fell:=l } { a with fq:=v }).toArray 44)) (g2:GB (some bs) w1 w2):gU Λ bs bc { S with fell:=l } { a with fq:=v } gv sv B ad w2/\Kz w w2:=by
 have own:∀ x,a.fq.ownBlock=some x->∃ c,w.heap[x]? = some (.cells c 4):=λ x hx=>aD h.si.fe hx
 have nb:∀ {x:Nat} {c:Array Value} {t:TypeId},w.heap[x]? = some (.cells c t)->t≠44->t≠4->w2.heap[x]? = w.heap[x]?:=λ {x c t} hx ht1 ht2=>(g2.block x (Nat.lt_of_lt_of_le (ag hx) g1.size) λ e=>df hx h.si.mem ht1 (Option.some.inj e)).trans (g1.block x (ag hx) λ e=>by obtain ⟨c',hc⟩:=own x e.symm;exact df hx hc ht2 rfl)
 have k:Kz w w2:=λ t ht b c hb=>(nb hb (λ e=>by subst e;revert ht;decide) (λ e=>by subst e;revert ht;decide)).trans hb
 have hs:nR w2 bs bc { S with fell:=l } { a with fq:=v }:=by
  refine ⟨m2,aA h.si.ak λ x hx=>?_,aA h.si.be λ x hx=>?_,h.si.bl,λ g l v hl hv=>(h.si.bi g l v hl hv).kz k λ x hx=>?_,aA h.si.le λ x hx=>?_,aA ho λ x hx=>?_⟩
  ·obtain ⟨c,hc⟩:=aD h.si.ak hx;exact nb hc (by decide) (by decide)
  ·obtain ⟨c,hc⟩:=aD h.si.be hx;exact nb hc (by decide) (by decide)
  ·obtain ⟨c,hc⟩:=(h.si.bi g l v hl hv).obj hx;exact nb hc (by decide) (by decide)
  ·obtain ⟨c,hc⟩:=aD h.si.le hx;exact nb hc (by decide) (by decide)
  ·obtain ⟨c,hc⟩:=aD ho hx
   refine g2.block x (ag hc) λ e=>?_
   cases e
   rcases hn bs hx with q | q
   ·obtain ⟨c',hc'⟩:=own bs q
    exact df hc' h.si.mem (by decide) rfl
   ·have:=ag h.si.mem;omega
 refine h.gs ((GS.of g1 λ x e=>.inr (.inr (.inr (.inr (.inl e))))).then g2 λ x e=>.inl (Option.some.inj e).symm) hs rfl λ x hx=>?_
 rcases hx with e | e | e | e | e | e
 ·exact .inl (.inl e)
 ·exact .inl (.inr (.inl e))
 ·exact .inl (.inr (.inr (.inl e)))
 ·exact .inl (.inr (.inr (.inr (.inl e))))
 ·exact (hn x e).imp (λ e=>.inr (.inr (.inr (.inr (.inl e))))) id
 ·exact .inl (.inr (.inr (.inr (.inr (.inr e)))))
end
section
variable {Λ:bU} {w w0 w1 w2:World} {bs bc:Nat} {S:Sit} {a:zk} {gv sv:Value} {B:Nat->Nat->Nat} {ad:Nat->Nat->fH}
theorem gU.be' (h:gU Λ bs bc S a gv sv B ad w) {v:Value} {dM:List (List MC)} {bv:List Value} (g0:GB none w w0) (g1:GB a.bq.ownBlock w0 w1) (ho:w1.ownsRow 0 57 1 v dM.length bv) (hv:∀ x,v.ownBlock=some x->a.bq.ownBlock=some x\/w.heap.size<=x) (hl:bv.length=dM.length) (m2:w2.heap[bs]? = some (.cells (gp bc { S with dM:=dM } { a with bq:=v,bv:=bv }).toArray 44)) (g2:GB (some bs) w1 w2)
 (hbi:∀ (g:Nat) (l:List MC) (u:Value),dM[g]? = some l->bv[g]? = some u->(S.dM[g]? = some l/\a.bv[g]? = some u)\/(mR w0 u l/\∀ x,u.ownBlock=some x->w.heap.size<=x)):gU Λ bs bc { S with dM:=dM } { a with bq:=v,bv:=bv } gv sv B ad w2/\Kz w w2:=by
 have own:∀ x,a.bq.ownBlock=some x->∃ c,w.heap[x]? = some (.cells c 57):=λ x hx=>aD h.si.be hx
 have JG:∀ x,x<w0.heap.size->some x≠a.bq.ownBlock->x≠bs->w2.heap[x]? = w0.heap[x]?:=λ x hx h1 h2=>(g2.block x (Nat.lt_of_lt_of_le hx g1.size) λ e=>h2 (Option.some.inj e)).trans (g1.block x hx h1)
 have nb:∀ {x:Nat} {c:Array Value} {t:TypeId},w.heap[x]? = some (.cells c t)->t≠44->t≠57->w2.heap[x]? = w.heap[x]?:=λ {x c t} hx ht1 ht2=>(JG x (ag (g0.get hx nofun)) (λ e=>by obtain ⟨c',hc⟩:=own x e.symm;exact df hx hc ht2 rfl) (df hx h.si.mem ht1)).trans (g0.block x (ag hx) nofun)
 have k:Kz w w2:=λ t ht b c hb=>(nb hb (λ e=>by subst e;revert ht;decide) (λ e=>by subst e;revert ht;decide)).trans hb
 have k0:Kz w0 w2:=λ t ht b c hb=>(JG b (ag hb) (λ e=>by obtain ⟨c',hc⟩:=own b e.symm;exact df hb (g0.get hc nofun) (λ e=>by subst e;revert ht;decide) rfl) (df hb (g0.get h.si.mem nofun) λ e=>by subst e;revert ht;decide)).trans hb
 have hs:nR w2 bs bc { S with dM:=dM } { a with bq:=v,bv:=bv }:=by
  refine ⟨m2,aA h.si.ak λ x hx=>?_,aA ho λ x hx=>?_,hl,λ g l u h1 h2=>?_,aA h.si.le λ x hx=>?_,aA h.si.fe λ x hx=>?_⟩
  ·obtain ⟨c,hc⟩:=aD h.si.ak hx;exact nb hc (by decide) (by decide)
  ·obtain ⟨c,hc⟩:=aD ho hx
   refine g2.block x (ag hc) λ e=>?_
   cases e
   rcases hv bs hx with q | q
   ·obtain ⟨c',hc'⟩:=own bs q
    exact df hc' h.si.mem (by decide) rfl
   ·have:=ag h.si.mem;omega
  ·rcases hbi g l u h1 h2 with ⟨q1,q2⟩ | ⟨q1,q2⟩
   ·exact (h.si.bi g l u q1 q2).kz k λ x hx=>by obtain ⟨c,hc⟩:=(h.si.bi g l u q1 q2).obj hx;exact nb hc (by decide) (by decide)
   ·refine q1.kz k0 λ x hx=>?_
    obtain ⟨c,hc⟩:=q1.obj hx;have:=q2 x hx;refine JG x (ag hc) (λ e=>?_) (λ e=>?_)
    ·obtain ⟨c',hc'⟩:=own x e.symm;have:=ag hc';omega
    ·subst e;have:=ag h.si.mem;omega
  ·obtain ⟨c,hc⟩:=aD h.si.le hx;exact nb hc (by decide) (by decide)
  ·obtain ⟨c,hc⟩:=aD h.si.fe hx;exact nb hc (by decide) (by decide)
 refine h.gs (((GS.of g0 nofun).then g1 λ x e=>.inr (.inr (.inl e))).then g2 λ x e=>.inl (Option.some.inj e).symm) hs rfl λ x hx=>?_
 rcases hx with e | e | e | e | e | ⟨u,hu,e⟩
 ·exact .inl (.inl e)
 ·exact .inl (.inr (.inl e))
 ·exact (hv x e).imp (λ e=>.inr (.inr (.inl e))) id
 ·exact .inl (.inr (.inr (.inr (.inl e))))
 ·exact .inl (.inr (.inr (.inr (.inr (.inl e)))))
 ·obtain ⟨g,hg⟩:=List.mem_iff_getElem?.1 hu
  have hlt:g<dM.length:=by rw [<- hl];exact (List.getElem?_eq_some_iff.1 hg).1
  rcases hbi g dM[g] u (by simp [hlt]) hg with ⟨_,q2⟩ | ⟨_,q2⟩
  ·exact .inl (.inr (.inr (.inr (.inr (.inr ⟨u,List.mem_of_getElem? q2,e⟩)))))
  ·exact .inr (q2 x e)
end
def Sit.new (A:aT) (n sz:Nat):Sit:=⟨aL.new A n sz,[],List.replicate n [],List.replicate (n*sz) 0,List.replicate (n*sz) false,0,false⟩
section
variable {A:aT} (HA:bK A)
include HA
theorem QV (w:World) (n f:Nat) (hn:1<=n/\n<=4) (hf:f<=2):af Tryz.prog 50 #[.int .i64 n,.int .i64 (2*f+1:Nat)] w (λ v w'=>∃ bs,v=.tuple #[Ptt bs,.bool true]/\w.heap.size<=bs/\bY (dK w) bs (Sit.new A n (2*f+1)) w'/\Kz w w'):=by
 refine aj ah mixed Tryz.func50 rfl rfl ?_;refine λ w1 bs m1 g1 l1=>?_
 have hq:IntKind.i64.wrap (((2*f+1:Nat):Int).tdiv 2)=((f:Nat):Int):=by
  rw [Int.tdiv_eq_ediv_of_nonneg (Int.natCast_nonneg _),Go.IntWalk.i64_in _ ⟨by omega,by omega⟩];omega
 have hnew:=aaz HA w1 n f hn hf;refine ⟨by decide,?_⟩;have aaV:∀ z:Int,z=(f:Int)->af Tryz.prog 87 #[.int .i64 n,.int .i64 z] w1 _:=λ z hz=>by subst hz;exact hnew
 refine ⟨_,aaV _ hq,?_⟩;rintro _ w2 ⟨bc,rfl,Y4,hC,k2⟩;obtain ⟨gv,sv,B,ad,hC⟩:=hC;have m12:=(hC.pr bs _ m1).1;have nbs:=(hC.pr bs _ m1).2;refine ⟨_,_,_,m12,rfl,rfl,λ w3 m3 g3=>?_⟩;have k3:Kz w2 w3:=g3.BX λ c t ht hc=>by rw [m12] at hc;injection hc with hc;injection hc with _ hc;subst hc;revert ht;decide
 have h3:gU (dK w) bs bc ⟨aL.new A n (2*f+1),[],[],[],[],0,false⟩ ⟨.slice none 0 0,.slice none 0 0,.slice none 0 0,.slice none 0 0,[]⟩ gv sv B ad w3:=by
  have so:∀ x,wP bs ⟨.slice none 0 0,.slice none 0 0,.slice none 0 0,.slice none 0 0,[]⟩ x->x=bs:=λ x hx=>by
   rcases hx with e | e | e | e | e | ⟨v,hv,e⟩
   ·exact e
   ·cases e
   ·cases e
   ·cases e
   ·cases e
   ·cases hv
  have co:∀ x,mh (aL.new A n (2*f+1)).n (aL.new A n (2*f+1)).sz B bc sv ad x->x≠bs/\x<w2.heap.size:=λ x hx=>⟨λ e=>nbs (e ▸ hx),by
   rcases hx with rfl | hx | ⟨g,i,hg,hi,hx⟩
   ·exact ag hC.ci.eH
   ·obtain ⟨c,hc⟩:=aD hC.ci.row hx;exact ag hc
   ·exact (hC.ci.rep g i hg hi).lt hx⟩
  refine ⟨⟨m3,eX _ _ _,eX _ _ _,rfl,λ g l v h=>(by simp at h),eX _ _ _,eX _ _ _⟩,hC.ci.keep k3 (λ x hx=>g3.block x (co x hx).2 λ e=>(co x hx).1 (Option.some.inj e)) (λ x c t ht hx=>g3.get hx λ e=>?_),λ x hx=>(by rw [so x hx];exact nbs),λ b o hb=>?_,g3.os.trans (hC.os.trans g1.os),g3.out.trans (hC.out.trans g1.out)⟩
  ·cases e
   rw [m12] at hx;injection hx with hx;injection hx with _ hx;subst hx;revert ht;decide
  ·have hb:w.heap[b]? = some o:=hb
   have hlt:=ag hb;have lbs:w.heap.size<=bs:=l1;obtain ⟨p1,p2⟩:=hC.pr b o (g1.get hb nofun);exact ⟨g3.get p1 λ e=>(by cases e;omega),λ e=>(by have:=so b e;omega),p2⟩
 have K3:Kz w w3:=(g1.kz.trans k2).trans k3;refine ⟨λ m s wk=>∃ (k:Nat) (a:zk),m=n - k/\k<=n/\s=[(6,Ptt bs),(9,.int .i64 k)]/\gU (dK w) bs bc ⟨aL.new A n (2*f+1),[],List.replicate k [],[],[],0,false⟩ a gv sv B ad wk/\Kz w wk,⟨_,_,⟨0,_,rfl,Nat.zero_le _,rfl,h3,K3⟩,rfl,rfl,trivial⟩,?_⟩;rintro m s wk ⟨k,a,rfl,hk,rfl,hS,K⟩;refine ⟨_,_,hS.si.mem,_,rfl,au (λ c=>?_) (λ c=>?_)⟩
 ·have c1:k<n:=by have:=of_decide_eq_true c;simp only [aL.new] at this;omega
  obtain ⟨ba,wQ,hbq⟩:=ae hS.si.be;have hbe:=hS.si.be;rw [hbq] at hbe;have hmem:=hS.si.mem;refine ⟨_,_,hmem,.slice ba (List.replicate k ([]:List MC)).length wQ,by show (gp _ _ _)[4]? = _;unfold gp;rw [hbq];rfl,λ w4 b4 m4 g4 l4=>?_⟩;have ZN:=aA hbe (w1:=w4) λ x hx=>by obtain ⟨c,hc⟩:=aD hbe hx;exact g4.block x (ag hc) nofun
  refine ⟨_,[.slice none 0 0],ZN,⟨_,_,m4,rfl,rfl,rfl⟩,by simp;omega,λ v' w5 Er g5 n5=>?_⟩;have mm:w5.heap[bs]? = _:=g5.get (g4.get hmem nofun) λ e=>by
   obtain ⟨c,hc⟩:=aD ZN e.symm;exact df (g4.get hmem nofun) hc (by decide) rfl
  obtain ⟨va,vc,rfl⟩:=ae Er;refine ⟨_,_,_,mm,rfl,rfl,λ w6 m6 g6=>?_⟩;have e1:(List.replicate (k+1) ([]:List MC)).length=(List.replicate k ([]:List MC)).length+1:=by simp
  obtain ⟨h6,k6⟩:=hS.be' (dM:=List.replicate (k+1) []) g4 (by rw [hbq];exact g5) (by rw [e1];exact Er) (λ x hx=>by rw [hbq];rcases n5 x hx with e | e;exact .inl e;exact .inr (Nat.le_trans g4.size e)) (by rw [List.length_append,hS.si.bl];simp) m6 g6 (λ g l u q1 q2=>by
   have hg:g<k+1:=by have:=(List.getElem?_eq_some_iff.1 q1).1;simpa using this
   have hbl:a.bv.length=k:=by rw [hS.si.bl];simp
   by_cases e:g<k
   ·refine .inl ⟨?_,?_⟩
    ·rw [List.getElem?_replicate,if_pos hg] at q1;show (List.replicate k _)[g]? = _;rw [List.getElem?_replicate,if_pos e];exact q1
    ·rw [List.getElem?_append_left (by omega)] at q2;exact q2
   ·have e:g=k:=by omega
    subst e;rw [List.getElem?_append_right (by omega),hbl,Nat.sub_self] at q2;cases q2
    rw [List.getElem?_replicate,if_pos hg] at q1;cases q1
    exact .inr ⟨⟨[],rfl,eX _ _ _,λ i c p h=>by simp at h⟩,nofun⟩)
  exact ⟨by omega,_,_,⟨k+1,_,rfl,by omega,rfl,h6,K.trans k6⟩,⟨rfl,rfl,trivial⟩,by omega⟩
 ·have c1:k=n:=by have:=of_decide_eq_false c;simp only [aL.new] at this;omega
  subst c1;have hle:k*(2*f+1)<=20:=Nat.le_trans (Nat.mul_le_mul hn.2 (show 2*f+1<=5 by omega)) (by decide);have hcast:(k:Int)*((2*f+1:Nat):Int)=((k*(2*f+1):Nat):Int):=(Int.natCast_mul _ _).symm;refine ⟨λ m s wk=>∃ (j:Nat) (a:zk),m=k*(2*f+1) - j/\j<=k*(2*f+1)/\s=[(6,Ptt bs),(10,.int .i64 j)]/\gU (dK w) bs bc ⟨aL.new A k (2*f+1),[],List.replicate k [],List.replicate j 0,List.replicate j false,0,false⟩ a gv sv B ad wk/\Kz w wk,⟨_,_,⟨0,_,rfl,Nat.zero_le _,rfl,hS,K⟩,rfl,rfl,trivial⟩,?_⟩;clear hS K;rintro m s wk ⟨j,a,rfl,hj,rfl,hS,K⟩;have hmem:=hS.si.mem;have hc2:((aL.new A k (2*f+1)).n:Int)*((aL.new A k (2*f+1)).sz:Int)=((k*(2*f+1):Nat):Int):=hcast;refine ⟨by kernel_rfl,_,_,hmem,_,rfl,_,_,hmem,_,rfl,⟨by show _<=((aL.new A k (2*f+1)).n:Int)*((aL.new A k (2*f+1)).sz:Int);omega,by show ((aL.new A k (2*f+1)).n:Int)*((aL.new A k (2*f+1)).sz:Int)<=_;omega⟩,au (λ d=>?_) (λ d=>?_)⟩
  ·have d1:j<k*(2*f+1):=by have:=of_decide_eq_true d;rw [show (_:Int)*_=_ from hc2] at this;omega
   obtain ⟨la,jL,hlq⟩:=ae hS.si.le;have hle1:=hS.si.le;rw [hlq] at hle1;refine ⟨_,_,hmem,.slice la (List.replicate j 0).length jL,by show (gp _ _ _)[5]? = _;unfold gp;rw [hlq];rfl,λ w4 b4 m4 g4 l4=>?_⟩;have ZO:=aA hle1 (w1:=w4) λ x hx=>by obtain ⟨c,hc⟩:=aD hle1 hx;exact g4.block x (ag hc) nofun
   refine ⟨_,[.int .i64 0],ZO,⟨_,_,m4,rfl,rfl,rfl⟩,by simp;omega,λ v' w5 Er g5 n5=>?_⟩;have mm:w5.heap[bs]? = _:=g5.get (g4.get hmem nofun) λ e=>by
    obtain ⟨c,hc⟩:=aD ZO e.symm;exact df (g4.get hmem nofun) hc (by decide) rfl
   obtain ⟨va,vc,rfl⟩:=ae Er;refine ⟨_,_,_,mm,rfl,rfl,λ w6 m6 g6=>?_⟩;have e1:(List.replicate (j+1) 0).length=(List.replicate j 0).length+1:=by simp
   obtain ⟨h6,k6⟩:=(hS.ax g4).le' (l:=List.replicate (j+1) 0) (by rw [hlq];exact g5) (by rw [e1,List.replicate_succ',List.map_append];exact Er) (λ x hx=>by rw [hlq];exact n5 x hx) m6 g6;have OC:=h6.si.mem;obtain ⟨fa,adj,Vs⟩:=ae h6.si.fe;have Ui:=h6.si.fe;rw [Vs] at Ui;refine ⟨_,_,OC,.slice fa (List.replicate j false).length adj,by show (gp _ _ _)[6]? = _;unfold gp;rw [Vs];rfl,λ w7 b7 m7 g7 l7=>?_⟩;have ZP:=aA Ui (w1:=w7) λ x hx=>by obtain ⟨c,hc⟩:=aD Ui hx;exact g7.block x (ag hc) nofun
   refine ⟨_,[.bool false],ZP,⟨_,_,m7,rfl,rfl,rfl⟩,by simp;omega,λ v8 w8 ho8 g8 n8=>?_⟩;have mm8:w8.heap[bs]? = _:=g8.get (g7.get OC nofun) λ e=>by
    obtain ⟨c,hc⟩:=aD ZP e.symm;exact df (g7.get OC nofun) hc (by decide) rfl
   obtain ⟨va8,vc8,rfl⟩:=ae ho8;refine ⟨_,_,_,mm8,rfl,rfl,λ w9 m9 g9=>?_⟩;have e2:(List.replicate (j+1) false).length=(List.replicate j false).length+1:=by simp
   obtain ⟨h9,k9⟩:=(h6.ax g7).ZM (l:=List.replicate (j+1) false) (by rw [Vs];exact g8) (by rw [e2,List.replicate_succ',List.map_append];exact ho8) (λ x hx=>by rw [Vs];exact n8 x hx) m9 g9;exact ⟨by omega,_,_,⟨j+1,_,rfl,by omega,rfl,h9,(((K.trans g4.kz).trans k6).trans g7.kz).trans k9⟩,⟨rfl,rfl,trivial⟩,by omega⟩
  ·have d1:j=k*(2*f+1):=by have:=of_decide_eq_false d;rw [show (_:Int)*_=_ from hc2] at this;omega
   subst d1;exact ⟨bs,rfl,l1,⟨_,_,_,_,_,_,hS⟩,K⟩
end
def nE (q:bN):MM:={ aP 1 with q:=q }
structure rO (A:aT):Prop where
 mask:∀ (w:World) (q:bN),A.gc (gI q)->af Tryz.prog 43 #[.agg (dL (nE q) (.slice none 0 0) (.slice none 0 0) (.slice none 0 0) (.slice none 0 0) (.slice none 0 0)).toArray] w (λ v w'=>v=.tuple #[.string (A.enc (nE q)),.int .i64 0]/\GB none w w')
 small:∀ q,A.gc (gI q)->(A.enc (nE q)).size<=1000
def Sit.sends (A:aT) (S:Sit) (q:bN) (g i:Nat):Sit:={ S with C:=S.C.send g i (A.enc (nE q)),asks:=S.asks++[⟨q,g,S.C.q.length⟩] }
theorem aL.qG (C:aL) (g i:Nat) (d:ByteArray):(C.send g i d).n=C.n/\(C.send g i d).sz=C.sz:=by unfold aL.send;split <;> exact ⟨rfl,rfl⟩
section
variable {A:aT} (HL:rO A) {Λ:bU} {w:World} {bs:Nat} {S:Sit}
include HL
theorem MJ (h:bY Λ bs S w) (hF:S.C.aK A) {q:bN} (hq:A.gc (gI q)) {g i:Nat} (hg:g<S.C.n) (hi:i<S.C.sz) (hb:S.asks.length<=1000000):af Tryz.prog 20 #[Ptt bs,.agg q.cells.toArray,.agg #[.int .u8 g,.int .u8 i]] w (λ v w'=>v=.tuple #[]/\bY Λ bs (S.sends A q g i) w'/\Kz w w'):=by
 obtain ⟨bc,a,gv,sv,B,ad,h⟩:=h;have hn:=hF.n;have hz:=hF.sz;have hlen:=hF.len;refine aj ah mixed Tryz.func20 rfl rfl ?_;refine λ w1 b1 m1 g1 l1 w2 b2 m2 g2 l2=>?_
 refine ⟨_,_,g2.get m1 nofun,q.cells,rfl,rfl,_,HL.mask w2 q hq,?_⟩;rintro _ w3 ⟨rfl,g3⟩;have G3:=(g1.trans g2).trans g3;have h3:=h.ax G3;have m13:=(g2.trans g3).get m1 nofun;have m23:=g3.get m2 nofun;have ZQ:w3.heap[b1]? = some (.cells q.cells.toArray 65):=m13;have Uj:w3.heap[b2]? = some (.cells #[.int .u8 g,.int .u8 i] 48):=m23;have nc:∀ {x:Nat} {c:Array Value} {t:TypeId},w3.heap[x]? = some (.cells c t)->w.heap.size<=x->¬ mh S.C.n S.C.sz B bc sv ad x:=λ {x c t} hx hl hC=>by
  rcases hC with e | e | ⟨g',i',p1,p2,p3⟩
  ·subst e;have:=ag h.ci.eH;omega
  ·obtain ⟨c',hc'⟩:=aD h.ci.row e;have:=ag hc';omega
  ·have:=(h.ci.rep g' i' p1 p2).lt p3;omega
 have lb1:w.heap.size<=b1:=l1;have lb2:w.heap.size<=b2:=Nat.le_trans g1.size l2;refine ⟨by kernel_rfl,_,_,h3.si.mem,_,rfl,_,_,Uj,[.int .u8 g,.int .u8 i],rfl,rfl,_,Jw h3.enter hF.n hF.sz g i (by omega) (by omega) (A.enc (nE q)),?_⟩;rintro _ w4 ⟨rfl,hC4,k4⟩;have pr4:∀ {x:Nat} {o:Obj},w3.heap[x]? = some o->¬ mh S.C.n S.C.sz B bc sv ad x->w4.heap[x]? = some o:=λ {x o} hx hno=>by
  obtain ⟨_,_,_,_,h'⟩:=hC4;exact (h'.pr x o (by unfold yP;dsimp only;rw [if_neg hno];exact hx)).1
 have m14:=pr4 ZQ (nc ZQ lb1);have m24:=pr4 Uj (nc Uj lb2);have sm:=HL.small q hq;rw [if_pos ⟨⟨hg,hi⟩,by omega⟩,if_pos ⟨hg,hi⟩,if_neg (by omega)];obtain ⟨en,ez⟩:=S.C.qG g i (A.enc (nE q));have h4:=h3.leave en ez hC4 k4;obtain ⟨bc',a',Qi,dx,B',jo,h4⟩:=h4;obtain ⟨C,asks,dM,len,fell,next,bad⟩:=S;cases bad
 all_goals
  have hmem:=h4.si.mem;refine ⟨_,_,hmem,_,rfl,_,_,_,hmem,rfl,rfl,λ w5 m5 g5=>?_⟩;obtain ⟨h5,k5⟩:=h4.num (k:=next) m5 g5;have m15:w5.heap[b1]? = _:=g5.get m14 λ e=>df m14 hmem (by decide) (Option.some.inj e)
  have tN:w5.heap[b2]? = _:=g5.get m24 λ e=>df m24 hmem (by decide) (Option.some.inj e)
  have rP:=h5.si.mem;obtain ⟨aa,Uk,haq⟩:=ae h5.si.ak;have hak:=h5.si.ak;rw [haq] at hak;refine ⟨by kernel_rfl,_,_,rP,.slice aa asks.length Uk,by show (gp _ _ _)[3]? = _;unfold gp;rw [haq];rfl,_,_,m15,q.cells,rfl,rfl,_,_,tN,_,rfl,λ w6 b6 m6 g6 l6=>?_⟩;have OD:=aA hak (w1:=w6) λ x hx=>by obtain ⟨c,hc⟩:=aD hak hx;exact g6.block x (ag hc) nofun
  refine ⟨⟨g6.get tN nofun,g6.get m15 nofun,g6.get rP nofun,trivial⟩,?_⟩;refine ⟨_,(Ask.mk q g C.q.length).cells,OD,⟨_,_,m6,rfl,rfl,rfl⟩,by show asks.length+1<=_;simp only at hb;omega,λ v' w7 Gn g7 n7=>?_⟩;have mm:w7.heap[bs]? = _:=g7.get (g6.get rP nofun) λ e=>by
   obtain ⟨c,hc⟩:=aD OD e.symm;exact df (g6.get rP nofun) hc (by decide) rfl
  obtain ⟨va,vc,rfl⟩:=ae Gn;have m57:w7.heap[b1]? = _:=g7.get (g6.get m15 nofun) λ e=>by
   obtain ⟨c,hc⟩:=aD OD e.symm;exact df (g6.get m15 nofun) hc (by decide) rfl
  have GV:w7.heap[b2]? = _:=g7.get (g6.get tN nofun) λ e=>by
   obtain ⟨c,hc⟩:=aD OD e.symm;exact df (g6.get tN nofun) hc (by decide) rfl
  refine ⟨_,_,_,mm,rfl,rfl,λ w8 m8 g8=>?_⟩;obtain ⟨h8,k8⟩:=(h5.ax g6).ak' (l:=asks++[⟨q,g,C.q.length⟩]) (by rw [haq];exact g7) (by rw [List.length_append,List.map_append,List.flatten_append];exact Gn) (λ x hx=>by rw [haq];exact n7 x hx) m8 g8;exact ⟨rfl,⟨_,_,_,_,_,_,h8⟩,(((G3.kz.trans k4).trans k5).trans g6.kz).trans k8⟩
end
def Sit.one (A:aT) (S:Sit):Sit:={ S with C:=S.C.dH A S.next,next:=S.next+1 }
def Sit.all (A:aT):Nat->Sit->Sit
 | 0,S=>S
 | n+1,S=>if S.next<S.C.q.length then Sit.all A n (S.one A) else S
theorem Sit.yR {A:aT} {S:Sit} (h:¬ S.next<S.C.q.length):∀ n,S.all A n=S
 | 0=>rfl
 | n+1=>by unfold Sit.all;rw [if_neg h]
theorem Sit.J4 {A:aT} {S:Sit} (h:S.next<S.C.q.length) (n:Nat):S.all A (n+1)=(S.one A).all A n:=by
 show (if S.next<S.C.q.length then Sit.all A n (S.one A) else S)=_;rw [if_pos h]
theorem Sit.FN (A:aT):∀ (i m:Nat) (S:Sit),S.all A (i+m)=(S.all A i).all A m
 | 0,m,S=>by rw [Nat.zero_add];rfl
 | i+1,m,S=>by
  rw [Nat.add_right_comm];by_cases h:S.next<S.C.q.length
  ·rw [Sit.J4 h,Sit.J4 h];exact Sit.FN A i m (S.one A)
  ·rw [Sit.yR h,Sit.yR h,Sit.yR h]
theorem aL.jr (A:aT) (C:aL) (k:Int):(C.dH A k).n=C.n/\(C.dH A k).sz=C.sz:=by
 unfold aL.dH;split
 ·unfold aL.fV
  split
  ·exact ⟨rfl,rfl⟩
  ·split <;> exact ⟨rfl,rfl⟩
 ·exact ⟨rfl,rfl⟩
theorem aL.oD (A:aT) (C:aL) (g i:Nat):(C.tick A g i).n=C.n/\(C.tick A g i).sz=C.sz:=by unfold aL.tick;split <;> exact ⟨rfl,rfl⟩
theorem aL.xI (A:aT) (C:aL) (g i:Nat):(C.di A g i).n=C.n/\(C.di A g i).sz=C.sz:=by unfold aL.di;split <;> exact ⟨rfl,rfl⟩
section
variable {A:aT} (HA:bK A) (HN:gJ A) {Λ:bU} {w:World} {bs:Nat} {S:Sit}
include HA HN
theorem Sit.J5:∀ (n:Nat) {S:Sit},S.C.aK A->(S.all A n).C.aK A
 | 0,_,h=>h
 | n+1,S,h=>by
  unfold Sit.all;split
  ·exact Sit.J5 n (S:=S.one A) (h.dH HA HN (S.next:Int))
  ·exact h
theorem Vt (h:bY Λ bs S w) (hF:S.C.aK A) (most:Nat) (hm:most<=1000000):fZ Tryz.prog 35 #[Ptt bs,.int .i64 most] w (λ v w'=>v=.bool true/\bY Λ bs (S.all A most) w'/\Kz w w'):=by
 refine rH ah mixed Tryz.func35 rfl rfl ?_;refine ⟨λ m s wk=>∃ i:Nat,m=most - i/\i<=most/\s=[(0,Ptt bs),(1,.int .i64 most),(5,.int .i64 i)]/\bY Λ bs (S.all A i) wk/\Kz w wk,⟨_,_,⟨0,rfl,Nat.zero_le _,rfl,h,Kz.refl _⟩,rfl,rfl,rfl,trivial⟩,?_⟩;rintro m s wk ⟨i,rfl,hi,rfl,hS,K⟩;have MK:=Sit.J5 HA HN i hF;have hadd:=Sit.FN A i (most - i) S;rw [Nat.add_sub_cancel' hi] at hadd;have hone:(S.all A i).next<(S.all A i).C.q.length->S.all A (i+1)=(S.all A i).one A:=λ h=>by
  rw [Sit.FN,Sit.J4 h];rfl
 generalize hT:S.all A i=T at hS MK hadd hone;obtain ⟨bc,a,gv,sv,B,ad,hS⟩:=hS;have hlen:=MK.len;have hmem:=hS.si.mem;refine ⟨by kernel_rfl,?_⟩;refine au (λ c=>?_) (λ c=>?_)
 ·have c1:i<most:=by simp at c;omega
  refine ⟨_,_,hmem,_,rfl,_,_,hmem,_,rfl,_,(oq hS.enter hlen 0 (by decide) (by decide)).x,?_⟩;rintro lv w1 ⟨o1,g1,_⟩;have e0:T.C.q.length - min (0:Int).toNat T.C.q.length=T.C.q.length:=by simp
  rw [e0] at o1;obtain ⟨la,lc,rfl⟩:=ae o1;have hS1:=hS.ax g1;have H8:=hS1.si.mem;refine ⟨⟨H8,H8,trivial⟩,?_⟩;refine au (λ d=>?_) (λ d=>?_)
  ·have d1:T.next<T.C.q.length:=by have:=of_decide_eq_true d;omega
   refine ⟨by kernel_rfl,_,_,H8,_,rfl,_,_,H8,_,rfl,_,wo HA HN hS1.enter MK (T.next:Int),?_⟩;rintro _ w2 ⟨rfl,hC2,k2⟩;rw [if_pos ⟨by omega,by omega⟩];obtain ⟨en,ez⟩:=aL.jr A T.C (T.next:Int);obtain ⟨bc',a',Qi,dx,B',jo,h2⟩:=hS1.leave en ez hC2 k2;have Vu:=h2.si.mem;refine ⟨_,_,Vu,_,rfl,⟨by show _<=((T.next:Nat):Int)+1;omega,by show ((T.next:Nat):Int)+1<=_;omega⟩,_,_,_,Vu,rfl,rfl,λ w3 m3 g3=>?_⟩;obtain ⟨h3,k3⟩:=h2.num (k:=T.next+1) (b:=T.bad) m3 g3;refine ⟨by omega,_,_,⟨i+1,rfl,by omega,rfl,?_,((K.trans g1.kz).trans k2).trans k3⟩,⟨rfl,rfl,rfl,trivial⟩,by omega⟩;rw [hone d1];exact ⟨_,_,_,_,_,_,h3⟩
  ·have d1:¬ T.next<T.C.q.length:=by have:=of_decide_eq_false d;omega
   refine ⟨rfl,?_,K.trans g1.kz⟩;rw [hadd,Sit.yR d1];exact ⟨_,_,_,_,_,_,hS1⟩
 ·have c1:i=most:=by simp at c;omega
  subst c1;rw [hT];exact ⟨rfl,⟨_,_,_,_,_,_,hS⟩,K⟩
end
def Sit.jH (A:aT):Nat->Sit->Sit
 | 0,S=>S
 | g+1,S=>{ S.jH A g with C:=(S.jH A g).C.tick A g 0 }
def Sit.round (A:aT) (S:Sit):Sit:=(S.jH A S.C.n).all A 20000
section
variable {A:aT} (HA:bK A) (HN:gJ A) {Λ:bU} {w:World} {bs:Nat} {S:Sit}
theorem Sit.xJ (S:Sit):∀ g,(S.jH A g).C.n=S.C.n/\(S.jH A g).C.sz=S.C.sz
 | 0=>⟨rfl,rfl⟩
 | g+1=>⟨(aL.oD A _ _ _).1.trans (Sit.xJ S g).1,(aL.oD A _ _ _).2.trans (Sit.xJ S g).2⟩
include HA HN
theorem Sit.EL (h:S.C.aK A):∀ g,(S.jH A g).C.aK A
 | 0=>h
 | g+1=>(Sit.EL h g).tick HA HN _ _
theorem FO (h:bY Λ bs S w) (hF:S.C.aK A) (hz:0<S.C.sz):fZ Tryz.prog 14 #[Ptt bs] w (λ v w'=>v=.bool true/\bY Λ bs (S.round A) w'/\Kz w w'):=by
 refine rH ah mixed Tryz.func14 rfl rfl ?_;refine ⟨λ m s wk=>∃ g:Nat,m=S.C.n - g/\g<=S.C.n/\s=[(0,Ptt bs),(3,.int .i64 g)]/\bY Λ bs (S.jH A g) wk/\Kz w wk,⟨_,_,⟨0,rfl,Nat.zero_le _,rfl,h,Kz.refl _⟩,rfl,rfl,trivial⟩,?_⟩;rintro m s wk ⟨g,rfl,hg,rfl,hS,K⟩;have hFg:=Sit.EL HA HN hF g;obtain ⟨en,ez⟩:=Sit.xJ (A:=A) S g;have OE:S.jH A (g+1)={ S.jH A g with C:=(S.jH A g).C.tick A g 0 }:=rfl;have hrd:S.round A=(S.jH A S.C.n).all A 20000:=rfl;have jB:=hF.n;obtain ⟨bc,a,gv,sv,B,ad,hS⟩:=hS;have hmem:=hS.si.mem;refine ⟨_,_,hmem,_,rfl,au (λ c=>?_) (λ c=>?_)⟩
 ·have c1:g<S.C.n:=by have:=of_decide_eq_true c;omega
  refine ⟨_,_,hmem,_,rfl,.inl ⟨by omega,_,Qf HA hS.enter hFg g 0 (by omega) (by omega),?_⟩⟩;rintro _ w1 ⟨rfl,Pj,k1⟩;rw [if_pos ⟨by omega,by omega⟩];obtain ⟨en1,ez1⟩:=aL.oD A (S.jH A g).C g 0;exact ⟨by omega,_,_,⟨g+1,rfl,by omega,rfl,hS.leave en1 ez1 Pj k1,K.trans k1⟩,⟨rfl,rfl,trivial⟩,by omega⟩
 ·have c1:g=S.C.n:=by have:=of_decide_eq_false c;omega
  subst c1;refine ⟨_,Vt HA HN ⟨_,_,_,_,_,_,hS⟩ hFg 20000 (by decide),?_⟩;rintro _ w1 ⟨rfl,h1,k1⟩;exact ⟨rfl,h1,K.trans k1⟩
end
end
end Go.Proofs.YtignemioillaiabGreat
