/- Lemmas. -/
import Derived.Test.YtignemioillaiaaGreatG42
namespace Go.Proofs.YtignemioillaiaaGreat
set_option maxHeartbeats 8000000
set_option maxRecDepth 100000
open List
section
open Go Go.Conc
section
variable{Λ:bU}{w w' w1 w2:World}{bs bc:Nat}{S S':Sit}{a a':yJ}{gv sv:Value}{B:Nat->Nat->Nat}{ad:Nat->Nat->gp}
theorem GS.of{P:Nat->Prop}{r:Option Nat}(g:GB r w w')(hr:∀x,r=some x->P x):GS P w w':=⟨g.os,g.out,g.size,λx hx hn=>g.block x hx λe=>hn (hr x e.symm)⟩
theorem GS.then{P:Nat->Prop}{r:Option Nat}(h:GS P w w1)(g:GB r w1 w2)(hr:∀x,r=some x->P x):GS P w w2:=⟨g.os.trans h.os,g.out.trans h.out,Nat.le_trans h.size g.size,λx hx hn=>(g.block x (Nat.lt_of_lt_of_le hx h.size) λe=>hn (hr x e.symm)).trans (h.block x hx hn)⟩
theorem iC.gs(h:iC Λ bs bc S a gv sv B ad w)(g:GS (xR bs a) w w')(hs:pz w' bs bc S' a')(hC:S'.C=S.C)(hn:∀x,xR bs a' x->xR bs a x\/w.heap.size<=x):iC Λ bs bc S' a' gv sv B ad w'/\Kz w w':=by
 have kt:∀{t:TypeId} {b:Nat} {c:Array Value},t ∉ Xd->w.heap[b]? = some (.cells c t)->w'.heap[b]? = some (.cells c t):=λ{t b c} ht hb=>(g.block b (ae hb) λe=>by
  obtain⟨c',t',h1,h2⟩:=h.si.typ e;rw[hb]at h1;injection h1 with h1;injection h1 with _ h1;subst h1;exact ht h2).trans hb
 have k:Kz w w':=λt ht b c hb=>kt (λe=>(SK e).1 ht) hb
 have cl:∀x,nC S.C.n S.C.sz B bc sv ad x->x<w.heap.size:=λx hx=>by
  rcases hx with rfl|hx|⟨g,i,hg,hi,hx⟩
  ·exact ae h.ci.fC
  ·obtain⟨c,hc⟩:=ax h.ci.row hx;exact ae hc
  ·exact(h.ci.rep g i hg hi).lt hx
 have c':=h.ci.keep k (λx hx=>g.block x (cl x hx) λe=>h.dj x e hx) λx c t ht hx=>kt (λe=>(SK e).2 ht) hx
 refine⟨⟨hs,by rw[hC];exact c',λx hx hc=>?_,λb o hb=>⟨(g.block b (ae (h.pr b o hb).1) (h.pr b o hb).2.1).trans (h.pr b o hb).1,λhx=>?_,by rw[hC];exact(h.pr b o hb).2.2⟩,g.os.trans h.os,g.out.trans h.out⟩,k⟩
 ·rw[hC]at hc
  rcases hn x hx with e|e
  ·exact h.dj x e hc
  ·have:=cl x hc;omega
 ·rcases hn b hx with e|e
  ·exact(h.pr b o hb).2.1 e
  ·have:=ae (h.pr b o hb).1;omega
theorem pz.num(h:pz w bs bc S a){k:Nat}{b:Bool}(m:w'.heap[bs]? = some (.cells (fV bc { S with next:=k,bad:=b } a).toArray 88))(g:GB (some bs) w w'):pz w' bs bc { S with next:=k,bad:=b } a:=by
 have nb:∀{x:Nat} {c:Array Value} {t:TypeId},w.heap[x]? = some (.cells c t)->t≠88->w'.heap[x]? = w.heap[x]?:=λhx ht=>g.block _ (ae hx) λe=>dw hx h.mem ht (Option.some.inj e)
 have k:Kz w w':=λt ht b c hb=>(nb hb λe=>by subst e;revert ht;decide).trans hb
 refine⟨m,ay h.ak λx hx=>?_,ay h.be λx hx=>?_,h.bl,λg l v hl hv=>(h.bi g l v hl hv).kz k λx hx=>?_,ay h.le λx hx=>?_,ay h.fe λx hx=>?_⟩
 ·obtain⟨c,hc⟩:=ax h.ak hx;exact nb hc (by decide)
 ·obtain⟨c,hc⟩:=ax h.be hx;exact nb hc (by decide)
 ·obtain⟨c,hc⟩:=(h.bi g l v hl hv).obj hx;exact nb hc (by decide)
 ·obtain⟨c,hc⟩:=ax h.le hx;exact nb hc (by decide)
 ·obtain⟨c,hc⟩:=ax h.fe hx;exact nb hc (by decide)
theorem iC.num(h:iC Λ bs bc S a gv sv B ad w){k:Nat}{b:Bool}(m:w'.heap[bs]? = some (.cells (fV bc { S with next:=k,bad:=b } a).toArray 88))(g:GB (some bs) w w'):iC Λ bs bc { S with next:=k,bad:=b } a gv sv B ad w'/\Kz w w' :=
 h.gs (GS.of g λ_x e=>.inl (Option.some.inj e).symm) (h.si.num m g) rfl λ_x hx=>.inl hx
theorem iC.ak'(h:iC Λ bs bc S a gv sv B ad w){v:Value}{l:List Ask}(g1:GB a.aq.ownBlock w w1)(ho:w1.ownsRow 0 162 9 v l.length (l.map Ask.cells).flatten)(hn:∀x,v.ownBlock=some x->a.aq.ownBlock=some x\/w.heap.size<=x)(m2:w2.heap[bs]? = some (.cells (fV bc { S with asks:=l } { a with aq:=v }).toArray 88))(g2:GB (some bs) w1 w2):iC Λ bs bc { S with asks:=l } { a with aq:=v } gv sv B ad w2/\Kz w w2:=by
 have own:∀x,a.aq.ownBlock=some x->∃c,w.heap[x]? = some (.cells c 162):=λx hx=>ax h.si.ak hx
 have nb:∀{x:Nat} {c:Array Value} {t:TypeId},w.heap[x]? = some (.cells c t)->t≠88->t≠162->w2.heap[x]? = w.heap[x]?:=λ{x c t} hx ht1 ht2=>(g2.block x (Nat.lt_of_lt_of_le (ae hx) g1.size) λe=>dw hx h.si.mem ht1 (Option.some.inj e)).trans (g1.block x (ae hx) λe=>by obtain⟨c',hc⟩:=own x e.symm;exact dw hx hc ht2 rfl)
 have k:Kz w w2:=λt ht b c hb=>(nb hb (λe=>by subst e;revert ht;decide) (λe=>by subst e;revert ht;decide)).trans hb
 have hs:pz w2 bs bc { S with asks:=l } { a with aq:=v }:=by
  refine⟨m2,ay ho λx hx=>?_,ay h.si.be λx hx=>?_,h.si.bl,λg l v hl hv=>(h.si.bi g l v hl hv).kz k λx hx=>?_,ay h.si.le λx hx=>?_,ay h.si.fe λx hx=>?_⟩
  ·obtain⟨c,hc⟩:=ax ho hx
   refine g2.block x (ae hc) λe=>?_
   cases e
   rcases hn bs hx with q|q
   ·obtain⟨c',hc'⟩:=own bs q
    exact dw hc' h.si.mem (by decide) rfl
   ·have:=ae h.si.mem;omega
  ·obtain⟨c,hc⟩:=ax h.si.be hx;exact nb hc (by decide) (by decide)
  ·obtain⟨c,hc⟩:=(h.si.bi g l v hl hv).obj hx;exact nb hc (by decide) (by decide)
  ·obtain⟨c,hc⟩:=ax h.si.le hx;exact nb hc (by decide) (by decide)
  ·obtain⟨c,hc⟩:=ax h.si.fe hx;exact nb hc (by decide) (by decide)
 refine h.gs ((GS.of g1 λx e=>.inr (.inl e)).then g2 λx e=>.inl (Option.some.inj e).symm) hs rfl λx hx=>?_
 rcases hx with e|e|e|e|e|e
 ·exact .inl (.inl e)
 ·exact(hn x e).imp (λe=>.inr (.inl e)) id
 ·exact .inl (.inr (.inr (.inl e)))
 ·exact .inl (.inr (.inr (.inr (.inl e))))
 ·exact .inl (.inr (.inr (.inr (.inr (.inl e)))))
 ·exact .inl (.inr (.inr (.inr (.inr (.inr e)))))
theorem iC.le'(h:iC Λ bs bc S a gv sv B ad w){v:Value}{l:List Nat}(g1:GB a.lq.ownBlock w w1)(ho:w1.ownsRow 0 3 1 v l.length (l.map λk=>Value.int .i64 (k:Nat)))(hn:∀x,v.ownBlock=some x->a.lq.ownBlock=some x\/w.heap.size<=x)(m2:w2.heap[bs]? = some (.cells (fV bc { S with len:=l } { a with lq:=v }).toArray 88))(g2:GB (some bs) w1 w2):iC Λ bs bc { S with len:=l } { a with lq:=v } gv sv B ad w2/\Kz w w2:=by
 have own:∀x,a.lq.ownBlock=some x->∃c,w.heap[x]? = some (.cells c 3):=λx hx=>ax h.si.le hx
 have nb:∀{x:Nat} {c:Array Value} {t:TypeId},w.heap[x]? = some (.cells c t)->t≠88->t≠3->w2.heap[x]? = w.heap[x]?:=λ{x c t} hx ht1 ht2=>(g2.block x (Nat.lt_of_lt_of_le (ae hx) g1.size) λe=>dw hx h.si.mem ht1 (Option.some.inj e)).trans (g1.block x (ae hx) λe=>by obtain⟨c',hc⟩:=own x e.symm;exact dw hx hc ht2 rfl)
 have k:Kz w w2:=λt ht b c hb=>(nb hb (λe=>by subst e;revert ht;decide) (λe=>by subst e;revert ht;decide)).trans hb
 have hs:pz w2 bs bc { S with len:=l } { a with lq:=v }:=by
  refine⟨m2,ay h.si.ak λx hx=>?_,ay h.si.be λx hx=>?_,h.si.bl,λg l v hl hv=>(h.si.bi g l v hl hv).kz k λx hx=>?_,ay ho λx hx=>?_,ay h.si.fe λx hx=>?_⟩
  ·obtain⟨c,hc⟩:=ax h.si.ak hx;exact nb hc (by decide) (by decide)
  ·obtain⟨c,hc⟩:=ax h.si.be hx;exact nb hc (by decide) (by decide)
  ·obtain⟨c,hc⟩:=(h.si.bi g l v hl hv).obj hx;exact nb hc (by decide) (by decide)
  ·obtain⟨c,hc⟩:=ax ho hx
   refine g2.block x (ae hc) λe=>?_
   cases e
   rcases hn bs hx with q|q
   ·obtain⟨c',hc'⟩:=own bs q
    exact dw hc' h.si.mem (by decide) rfl
   ·have:=ae h.si.mem;omega
  ·obtain⟨c,hc⟩:=ax h.si.fe hx;exact nb hc (by decide) (by decide)
 refine h.gs ((GS.of g1 λx e=>.inr (.inr (.inr (.inl e)))).then g2 λx e=>.inl (Option.some.inj e).symm) hs rfl λx hx=>?_
 rcases hx with e|e|e|e|e|e
 ·exact .inl (.inl e)
 ·exact .inl (.inr (.inl e))
 ·exact .inl (.inr (.inr (.inl e)))
 ·exact(hn x e).imp (λe=>.inr (.inr (.inr (.inl e)))) id
 ·exact .inl (.inr (.inr (.inr (.inr (.inl e)))))
 ·exact .inl (.inr (.inr (.inr (.inr (.inr e)))))
theorem iC.fe'(h:iC Λ bs bc S a gv sv B ad w){v:Value}{l:List Bool}(g1:GB a.fq.ownBlock w w1)(ho:w1.ownsRow 0 4 1 v l.length (l.map Value.bool))(hn:∀x,v.ownBlock=some x->a.fq.ownBlock=some x\/w.heap.size<=x)(m2:w2.heap[bs]? = some (.cells (fV bc { S with fell:=l } { a with fq:=v }).toArray 88))(g2:GB (some bs) w1 w2):iC Λ bs bc { S with fell:=l } { a with fq:=v } gv sv B ad w2/\Kz w w2:=by
 have own:∀x,a.fq.ownBlock=some x->∃c,w.heap[x]? = some (.cells c 4):=λx hx=>ax h.si.fe hx
 have nb:∀{x:Nat} {c:Array Value} {t:TypeId},w.heap[x]? = some (.cells c t)->t≠88->t≠4->w2.heap[x]? = w.heap[x]?:=λ{x c t} hx ht1 ht2=>(g2.block x (Nat.lt_of_lt_of_le (ae hx) g1.size) λe=>dw hx h.si.mem ht1 (Option.some.inj e)).trans (g1.block x (ae hx) λe=>by obtain⟨c',hc⟩:=own x e.symm;exact dw hx hc ht2 rfl)
 have k:Kz w w2:=λt ht b c hb=>(nb hb (λe=>by subst e;revert ht;decide) (λe=>by subst e;revert ht;decide)).trans hb
 have hs:pz w2 bs bc { S with fell:=l } { a with fq:=v }:=by
  refine⟨m2,ay h.si.ak λx hx=>?_,ay h.si.be λx hx=>?_,h.si.bl,λg l v hl hv=>(h.si.bi g l v hl hv).kz k λx hx=>?_,ay h.si.le λx hx=>?_,ay ho λx hx=>?_⟩
  ·obtain⟨c,hc⟩:=ax h.si.ak hx;exact nb hc (by decide) (by decide)
  ·obtain⟨c,hc⟩:=ax h.si.be hx;exact nb hc (by decide) (by decide)
  ·obtain⟨c,hc⟩:=(h.si.bi g l v hl hv).obj hx;exact nb hc (by decide) (by decide)
  ·obtain⟨c,hc⟩:=ax h.si.le hx;exact nb hc (by decide) (by decide)
  ·obtain⟨c,hc⟩:=ax ho hx
   refine g2.block x (ae hc) λe=>?_
   cases e
   rcases hn bs hx with q|q
   ·obtain⟨c',hc'⟩:=own bs q
    exact dw hc' h.si.mem (by decide) rfl
   ·have:=ae h.si.mem;omega
 refine h.gs ((GS.of g1 λx e=>.inr (.inr (.inr (.inr (.inl e))))).then g2 λx e=>.inl (Option.some.inj e).symm) hs rfl λx hx=>?_
 rcases hx with e|e|e|e|e|e
 ·exact .inl (.inl e)
 ·exact .inl (.inr (.inl e))
 ·exact .inl (.inr (.inr (.inl e)))
 ·exact .inl (.inr (.inr (.inr (.inl e))))
 ·exact(hn x e).imp (λe=>.inr (.inr (.inr (.inr (.inl e))))) id
 ·exact .inl (.inr (.inr (.inr (.inr (.inr e)))))
end
section
variable{Λ:bU}{w w0 w1 w2:World}{bs bc:Nat}{S:Sit}{a:yJ}{gv sv:Value}{B:Nat->Nat->Nat}{ad:Nat->Nat->gp}
theorem iC.be'(h:iC Λ bs bc S a gv sv B ad w){v:Value}{bG:List (List MC)}{bv:List Value}(g0:GB none w w0)(g1:GB a.bq.ownBlock w0 w1)(ho:w1.ownsRow 0 22 1 v bG.length bv)(hv:∀x,v.ownBlock=some x->a.bq.ownBlock=some x\/w.heap.size<=x)(hl:bv.length=bG.length)(m2:w2.heap[bs]? = some (.cells (fV bc { S with bG:=bG } { a with bq:=v,bv:=bv }).toArray 88))(g2:GB (some bs) w1 w2)
 (hbi:∀(g:Nat) (l:List MC) (u:Value),bG[g]? = some l->bv[g]? = some u->(S.bG[g]? = some l/\a.bv[g]? = some u)\/(jV w0 u l/\∀x,u.ownBlock=some x->w.heap.size<=x)):iC Λ bs bc { S with bG:=bG } { a with bq:=v,bv:=bv } gv sv B ad w2/\Kz w w2:=by
 have own:∀x,a.bq.ownBlock=some x->∃c,w.heap[x]? = some (.cells c 22):=λx hx=>ax h.si.be hx
 have KM:∀x,x<w0.heap.size->some x≠a.bq.ownBlock->x≠bs->w2.heap[x]? = w0.heap[x]?:=λx hx h1 h2=>(g2.block x (Nat.lt_of_lt_of_le hx g1.size) λe=>h2 (Option.some.inj e)).trans (g1.block x hx h1)
 have nb:∀{x:Nat} {c:Array Value} {t:TypeId},w.heap[x]? = some (.cells c t)->t≠88->t≠22->w2.heap[x]? = w.heap[x]?:=λ{x c t} hx ht1 ht2=>(KM x (ae (g0.get hx nofun)) (λe=>by obtain⟨c',hc⟩:=own x e.symm;exact dw hx hc ht2 rfl) (dw hx h.si.mem ht1)).trans (g0.block x (ae hx) nofun)
 have k:Kz w w2:=λt ht b c hb=>(nb hb (λe=>by subst e;revert ht;decide) (λe=>by subst e;revert ht;decide)).trans hb
 have k0:Kz w0 w2:=λt ht b c hb=>(KM b (ae hb) (λe=>by obtain⟨c',hc⟩:=own b e.symm;exact dw hb (g0.get hc nofun) (λe=>by subst e;revert ht;decide) rfl) (dw hb (g0.get h.si.mem nofun) λe=>by subst e;revert ht;decide)).trans hb
 have hs:pz w2 bs bc { S with bG:=bG } { a with bq:=v,bv:=bv }:=by
  refine⟨m2,ay h.si.ak λx hx=>?_,ay ho λx hx=>?_,hl,λg l u h1 h2=>?_,ay h.si.le λx hx=>?_,ay h.si.fe λx hx=>?_⟩
  ·obtain⟨c,hc⟩:=ax h.si.ak hx;exact nb hc (by decide) (by decide)
  ·obtain⟨c,hc⟩:=ax ho hx
   refine g2.block x (ae hc) λe=>?_
   cases e
   rcases hv bs hx with q|q
   ·obtain⟨c',hc'⟩:=own bs q
    exact dw hc' h.si.mem (by decide) rfl
   ·have:=ae h.si.mem;omega
  ·rcases hbi g l u h1 h2 with⟨q1,q2⟩|⟨q1,q2⟩
   ·exact(h.si.bi g l u q1 q2).kz k λx hx=>by obtain⟨c,hc⟩:=(h.si.bi g l u q1 q2).obj hx;exact nb hc (by decide) (by decide)
   ·refine q1.kz k0 λx hx=>?_
    obtain⟨c,hc⟩:=q1.obj hx;have:=q2 x hx;refine KM x (ae hc) (λe=>?_) (λe=>?_)
    ·obtain⟨c',hc'⟩:=own x e.symm;have:=ae hc';omega
    ·subst e;have:=ae h.si.mem;omega
  ·obtain⟨c,hc⟩:=ax h.si.le hx;exact nb hc (by decide) (by decide)
  ·obtain⟨c,hc⟩:=ax h.si.fe hx;exact nb hc (by decide) (by decide)
 refine h.gs (((GS.of g0 nofun).then g1 λx e=>.inr (.inr (.inl e))).then g2 λx e=>.inl (Option.some.inj e).symm) hs rfl λx hx=>?_
 rcases hx with e|e|e|e|e|⟨u,hu,e⟩
 ·exact .inl (.inl e)
 ·exact .inl (.inr (.inl e))
 ·exact(hv x e).imp (λe=>.inr (.inr (.inl e))) id
 ·exact .inl (.inr (.inr (.inr (.inl e))))
 ·exact .inl (.inr (.inr (.inr (.inr (.inl e)))))
 ·obtain⟨g,hg⟩:=mem_iff_getElem?.1 hu
  have hlt:g<bG.length:=by rw[<-hl];exact(List.getElem?_eq_some_iff.1 hg).1
  rcases hbi g bG[g] u (by simp[hlt]) hg with⟨_,q2⟩|⟨_,q2⟩
  ·exact .inl (.inr (.inr (.inr (.inr (.inr ⟨u,List.mem_of_getElem? q2,e⟩)))))
  ·exact .inr (q2 x e)
end
def Sit.new(A:aO)(n sz:Nat):Sit:=⟨aL.new A n sz,[],replicate n [],replicate (n*sz) 0,replicate (n*sz) false,0,false⟩
section
variable{A:aO}(HA:bH A)
include HA
theorem SN(w:World)(n f:Nat)(hn:1<=n/\n<=4)(hf:f<=2):ag Tryz.prog 123 #[.int .i64 n,.int .i64 (2*f+1:Nat)] w (λv w'=>∃bs,v=.tuple #[Ptt bs,.bool true]/\w.heap.size<=bs/\df (fI w) bs (Sit.new A n (2*f+1)) w'/\Kz w w'):=by
 refine ah Tryz.func123 rfl rfl ?_;refine λw1 bs m1 g1 l1=>?_
 have hq:IntKind.i64.wrap (((2*f+1:Nat):Int).tdiv 2)=((f:Nat):Int):=by
  rw[Int.tdiv_eq_ediv_of_nonneg (Int.natCast_nonneg _),Go.IntWalk.i64_in _ ⟨by omega,by omega⟩];omega
 have hnew:=acp HA w1 n f hn hf;refine⟨by decide,?_⟩;have acN:∀z:Int,z=(f:Int)->ag Tryz.prog 18 #[.int .i64 n,.int .i64 z] w1 _:=λz hz=>by subst hz;exact hnew
 refine⟨_,acN _ hq,?_⟩;rintro _ w2 ⟨bc,rfl,lbc,hC,k2⟩;obtain⟨gv,sv,B,ad,hC⟩:=hC;have m12:=(hC.pr bs _ m1).1;have nbs:=(hC.pr bs _ m1).2;refine⟨_,_,_,m12,rfl,rfl,λw3 m3 g3=>?_⟩;have k3:Kz w2 w3:=g3.De λc t ht hc=>by rw[m12]at hc;injection hc with hc;injection hc with _ hc;subst hc;revert ht;decide
 have h3:iC (fI w) bs bc ⟨aL.new A n (2*f+1),[],[],[],[],0,false⟩ ⟨.slice none 0 0,Ptz,Ptz,Ptz,[]⟩ gv sv B ad w3:=by
  have so:∀x,xR bs ⟨.slice none 0 0,Ptz,Ptz,Ptz,[]⟩ x->x=bs:=λx hx=>by
   rcases hx with e|e|e|e|e|⟨v,hv,e⟩
   ·exact e
   ·cases e
   ·cases e
   ·cases e
   ·cases e
   ·cases hv
  have co:∀x,nC (aL.new A n (2*f+1)).n (aL.new A n (2*f+1)).sz B bc sv ad x->x≠bs/\x<w2.heap.size:=λx hx=>⟨λe=>nbs (e▸hx),by
   rcases hx with rfl|hx|⟨g,i,hg,hi,hx⟩
   ·exact ae hC.ci.fC
   ·obtain⟨c,hc⟩:=ax hC.ci.row hx;exact ae hc
   ·exact(hC.ci.rep g i hg hi).lt hx⟩
  refine⟨⟨m3,dZ _ _ _,dZ _ _ _,rfl,λg l v h=>(by simp at h),dZ _ _ _,dZ _ _ _⟩,hC.ci.keep k3 (λx hx=>g3.block x (co x hx).2 λe=>(co x hx).1 (Option.some.inj e)) (λx c t ht hx=>g3.get hx λe=>?_),λx hx=>(by rw[so x hx];exact nbs),λb o hb=>?_,g3.os.trans (hC.os.trans g1.os),g3.out.trans (hC.out.trans g1.out)⟩
  ·cases e
   rw[m12]at hx;injection hx with hx;injection hx with _ hx;subst hx;revert ht;decide
  ·have hb:w.heap[b]? = some o:=hb
   have hlt:=ae hb;have lbs:w.heap.size<=bs:=l1;obtain⟨p1,p2⟩:=hC.pr b o (g1.get hb nofun);exact⟨g3.get p1 λe=>(by cases e;omega),λe=>(by have:=so b e;omega),p2⟩
 have K3:Kz w w3:=(g1.kz.trans k2).trans k3;refine⟨λm s wk=>∃(k:Nat) (a:yJ),m=n - k/\k<=n/\s=[(6,Ptt bs),(9,.int .i64 k)]/\iC (fI w) bs bc ⟨aL.new A n (2*f+1),[],replicate k [],[],[],0,false⟩ a gv sv B ad wk/\Kz w wk,⟨_,_,⟨0,_,rfl,Nat.zero_le _,rfl,h3,K3⟩,rfl,rfl,trivial⟩,?_⟩;rintro m s wk ⟨k,a,rfl,hk,rfl,hS,K⟩;refine⟨_,_,hS.si.mem,_,rfl,aj (λc=>?_) (λc=>?_)⟩
 ·have c1:k<n:=by have:=Ptq c;simp only[aL.new]at this;omega
  obtain⟨ba,kv,hbq⟩:=af hS.si.be;have hbe:=hS.si.be;rw[hbq]at hbe;have hmem:=hS.si.mem;refine⟨_,_,hmem,.slice ba (replicate k ([]:List MC)).length kv,by show(fV _ _ _)[4]? = _;unfold fV;rw[hbq];rfl,λw4 b4 m4 g4 l4=>?_⟩;have abr:=ay hbe (w1:=w4) λx hx=>by obtain⟨c,hc⟩:=ax hbe hx;exact g4.block x (ae hc) nofun
  refine⟨_,[Ptz],abr,⟨_,_,m4,rfl,rfl,rfl⟩,by simp;omega,λv' w5 Fq g5 n5=>?_⟩;have mm:w5.heap[bs]? = _:=g5.get (g4.get hmem nofun) λe=>by
   obtain⟨c,hc⟩:=ax abr e.symm;exact dw (g4.get hmem nofun) hc (by decide) rfl
  obtain⟨va,vc,rfl⟩:=af Fq;refine⟨_,_,_,mm,rfl,rfl,λw6 m6 g6=>?_⟩;have e1:(replicate (k+1) ([]:List MC)).length=(replicate k ([]:List MC)).length+1:=by simp
  obtain⟨h6,k6⟩:=hS.be' (bG:=replicate (k+1) []) g4 (by rw[hbq];exact g5) (by rw[e1];exact Fq) (λx hx=>by rw[hbq];rcases n5 x hx with e|e;exact .inl e;exact .inr (Nat.le_trans g4.size e)) (by rw[length_append,hS.si.bl];simp) m6 g6 (λg l u q1 q2=>by
   have hg:g<k+1:=by have:=(List.getElem?_eq_some_iff.1 q1).1;simpa using this
   have hbl:a.bv.length=k:=by rw[hS.si.bl];simp
   by_cases e:g<k
   ·refine .inl ⟨?_,?_⟩
    ·rw[getElem?_replicate,if_pos hg]at q1;show(replicate k _)[g]? = _;rw[getElem?_replicate,if_pos e];exact q1
    ·rw[getElem?_append_left (by omega)]at q2;exact q2
   ·have e:g=k:=by omega
    subst e;rw[getElem?_append_right (by omega),hbl,Nat.sub_self]at q2;cases q2
    rw[getElem?_replicate,if_pos hg]at q1;cases q1
    exact .inr ⟨⟨[],rfl,dZ _ _ _,λi c p h=>by simp at h⟩,nofun⟩)
  exact⟨by omega,_,_,⟨k+1,_,rfl,by omega,rfl,h6,K.trans k6⟩,⟨rfl,rfl,trivial⟩,by omega⟩
 ·have c1:k=n:=by have:=Ptx c;simp only[aL.new]at this;omega
  subst c1;have hle:k*(2*f+1)<=20:=Nat.le_trans (Nat.mul_le_mul hn.2 (show 2*f+1<=5 by omega)) (by decide);have hcast:(k:Int)*((2*f+1:Nat):Int)=((k*(2*f+1):Nat):Int):=(Int.natCast_mul _ _).symm;refine⟨λm s wk=>∃(j:Nat) (a:yJ),m=k*(2*f+1) - j/\j<=k*(2*f+1)/\s=[(6,Ptt bs),(10,.int .i64 j)]/\iC (fI w) bs bc ⟨aL.new A k (2*f+1),[],replicate k [],replicate j 0,replicate j false,0,false⟩ a gv sv B ad wk/\Kz w wk,⟨_,_,⟨0,_,rfl,Nat.zero_le _,rfl,hS,K⟩,rfl,rfl,trivial⟩,?_⟩;clear hS K;rintro m s wk ⟨j,a,rfl,hj,rfl,hS,K⟩;have hmem:=hS.si.mem;have hc2:((aL.new A k (2*f+1)).n:Int)*((aL.new A k (2*f+1)).sz:Int)=((k*(2*f+1):Nat):Int):=hcast;refine⟨by kernel_rfl,_,_,hmem,_,rfl,_,_,hmem,_,rfl,⟨by show _<=((aL.new A k (2*f+1)).n:Int)*((aL.new A k (2*f+1)).sz:Int);omega,by show((aL.new A k (2*f+1)).n:Int)*((aL.new A k (2*f+1)).sz:Int)<=_;omega⟩,aj (λd=>?_) (λd=>?_)⟩
  ·have d1:j<k*(2*f+1):=by have:=Ptq d;rw[show(_:Int)*_=_ from hc2]at this;omega
   obtain⟨la,ky,hlq⟩:=af hS.si.le;have hle1:=hS.si.le;rw[hlq]at hle1;refine⟨_,_,hmem,.slice la (replicate j 0).length ky,by show(fV _ _ _)[5]? = _;unfold fV;rw[hlq];rfl,λw4 b4 m4 g4 l4=>?_⟩;have abt:=ay hle1 (w1:=w4) λx hx=>by obtain⟨c,hc⟩:=ax hle1 hx;exact g4.block x (ae hc) nofun
   refine⟨_,[.int .i64 0],abt,⟨_,_,m4,rfl,rfl,rfl⟩,by simp;omega,λv' w5 Fq g5 n5=>?_⟩;have mm:w5.heap[bs]? = _:=g5.get (g4.get hmem nofun) λe=>by
    obtain⟨c,hc⟩:=ax abt e.symm;exact dw (g4.get hmem nofun) hc (by decide) rfl
   obtain⟨va,vc,rfl⟩:=af Fq;refine⟨_,_,_,mm,rfl,rfl,λw6 m6 g6=>?_⟩;have e1:(replicate (j+1) 0).length=(replicate j 0).length+1:=by simp
   obtain⟨h6,k6⟩:=(hS.au g4).le' (l:=replicate (j+1) 0) (by rw[hlq];exact g5) (by rw[e1,replicate_succ',map_append];exact Fq) (λx hx=>by rw[hlq];exact n5 x hx) m6 g6;have P6:=h6.si.mem;obtain⟨fa,afj,Xe⟩:=af h6.si.fe;have VD:=h6.si.fe;rw[Xe]at VD;refine⟨_,_,P6,.slice fa (replicate j false).length afj,by show(fV _ _ _)[6]? = _;unfold fV;rw[Xe];rfl,λw7 b7 m7 g7 l7=>?_⟩;have abu:=ay VD (w1:=w7) λx hx=>by obtain⟨c,hc⟩:=ax VD hx;exact g7.block x (ae hc) nofun
   refine⟨_,[.bool false],abu,⟨_,_,m7,rfl,rfl,rfl⟩,by simp;omega,λv8 w8 ho8 g8 n8=>?_⟩;have mm8:w8.heap[bs]? = _:=g8.get (g7.get P6 nofun) λe=>by
    obtain⟨c,hc⟩:=ax abu e.symm;exact dw (g7.get P6 nofun) hc (by decide) rfl
   obtain⟨va8,vc8,rfl⟩:=af ho8;refine⟨_,_,_,mm8,rfl,rfl,λw9 m9 g9=>?_⟩;have e2:(replicate (j+1) false).length=(replicate j false).length+1:=by simp
   obtain⟨h9,k9⟩:=(h6.au g7).fe' (l:=replicate (j+1) false) (by rw[Xe];exact g8) (by rw[e2,replicate_succ',map_append];exact ho8) (λx hx=>by rw[Xe];exact n8 x hx) m9 g9;exact⟨by omega,_,_,⟨j+1,_,rfl,by omega,rfl,h9,(((K.trans g4.kz).trans k6).trans g7.kz).trans k9⟩,⟨rfl,rfl,trivial⟩,by omega⟩
  ·have d1:j=k*(2*f+1):=by have:=Ptx d;rw[show(_:Int)*_=_ from hc2]at this;omega
   subst d1;exact⟨bs,rfl,l1,⟨_,_,_,_,_,_,hS⟩,K⟩
end
def oI(q:bQ):MM:={ aN 1 with q:=q }
structure qb(A:aO):Prop where
 mask:∀(w:World) (q:bQ),A.gc (fQ q)->ag Tryz.prog 158 #[.agg (dS (oI q) Ptz Ptz Ptz Ptz Ptz).toArray] w (λv w'=>v=.tuple #[.string (A.enc (oI q)),.int .i64 0]/\GB none w w')
 small:∀q,A.gc (fQ q)->(A.enc (oI q)).size<=1000
def Sit.sends(A:aO)(S:Sit)(q:bQ)(g i:Nat):Sit:={ S with C:=S.C.send g i (A.enc (oI q)),asks:=S.asks++[⟨q,g,S.C.q.length⟩] }
theorem aL.pV(C:aL)(g i:Nat)(d:ByteArray):(C.send g i d).n=C.n/\(C.send g i d).sz=C.sz:=by unfold aL.send;split<;>exact⟨rfl,rfl⟩
section
variable{A:aO}(HL:qb A){Λ:bU}{w:World}{bs:Nat}{S:Sit}
include HL
theorem N8(h:df Λ bs S w)(hF:S.C.aJ A){q:bQ}(hq:A.gc (fQ q)){g i:Nat}(hg:g<S.C.n)(hi:i<S.C.sz)(hb:S.asks.length<=1000000):ag Tryz.prog 125 #[Ptt bs,.agg q.cells.toArray,.agg #[.int .u8 g,.int .u8 i]] w (λv w'=>v=.tuple #[]/\df Λ bs (S.sends A q g i) w'/\Kz w w'):=by
 obtain⟨bc,a,gv,sv,B,ad,h⟩:=h;have hn:=hF.n;have hz:=hF.sz;have hlen:=hF.len;refine ah Tryz.func125 rfl rfl ?_;refine λw1 b1 m1 g1 l1 w2 b2 m2 g2 l2=>?_
 refine⟨_,_,g2.get m1 nofun,q.cells,rfl,rfl,_,HL.mask w2 q hq,?_⟩;rintro _ w3 ⟨rfl,g3⟩;have G3:=(g1.trans g2).trans g3;have h3:=h.au G3;have m13:=(g2.trans g3).get m1 nofun;have m23:=g3.get m2 nofun;have abv:w3.heap[b1]? = some (.cells q.cells.toArray 50):=m13;have VE:w3.heap[b2]? = some (.cells #[.int .u8 g,.int .u8 i] 66):=m23;have nc:∀{x:Nat} {c:Array Value} {t:TypeId},w3.heap[x]? = some (.cells c t)->w.heap.size<=x->¬nC S.C.n S.C.sz B bc sv ad x:=λ{x c t} hx hl hC=>by
  rcases hC with e|e|⟨g',i',p1,p2,p3⟩
  ·subst e;have:=ae h.ci.fC;omega
  ·obtain⟨c',hc'⟩:=ax h.ci.row e;have:=ae hc';omega
  ·have:=(h.ci.rep g' i' p1 p2).lt p3;omega
 have lb1:w.heap.size<=b1:=l1;have lb2:w.heap.size<=b2:=Nat.le_trans g1.size l2;refine⟨by kernel_rfl,_,_,h3.si.mem,_,rfl,_,_,VE,[.int .u8 g,.int .u8 i],rfl,rfl,_,RA h3.enter hF.n hF.sz g i (by omega) (by omega) (A.enc (oI q)),?_⟩;rintro _ w4 ⟨rfl,hC4,k4⟩;have pr4:∀{x:Nat} {o:Obj},w3.heap[x]? = some o->¬nC S.C.n S.C.sz B bc sv ad x->w4.heap[x]? = some o:=λ{x o} hx hno=>by
  obtain⟨_,_,_,_,h'⟩:=hC4;exact(h'.pr x o (by unfold zO;dsimp only;rw[if_neg hno];exact hx)).1
 have m14:=pr4 abv (nc abv lb1);have m24:=pr4 VE (nc VE lb2);have sm:=HL.small q hq;rw[if_pos ⟨⟨hg,hi⟩,by omega⟩,if_pos ⟨hg,hi⟩,if_neg (by omega)];obtain⟨en,ez⟩:=S.C.pV g i (A.enc (oI q));have h4:=h3.leave en ez hC4 k4;obtain⟨bc',a',RH,bX,B',jM,h4⟩:=h4;obtain⟨C,asks,bG,len,fell,next,bad⟩:=S;cases bad
 all_goals
  have hmem:=h4.si.mem;refine⟨_,_,hmem,_,rfl,_,_,_,hmem,rfl,rfl,λw5 m5 g5=>?_⟩;obtain⟨h5,k5⟩:=h4.num (k:=next) m5 g5;have m15:w5.heap[b1]? = _:=g5.get m14 λe=>dw m14 hmem (by decide) (Option.some.inj e)
  have uR:w5.heap[b2]? = _:=g5.get m24 λe=>dw m24 hmem (by decide) (Option.some.inj e)
  have tY:=h5.si.mem;obtain⟨aa,VF,haq⟩:=af h5.si.ak;have hak:=h5.si.ak;rw[haq]at hak;refine⟨by kernel_rfl,_,_,tY,.slice aa asks.length VF,by show(fV _ _ _)[3]? = _;unfold fV;rw[haq];rfl,_,_,m15,q.cells,rfl,rfl,_,_,uR,_,rfl,λw6 b6 m6 g6 l6=>?_⟩;have P7:=ay hak (w1:=w6) λx hx=>by obtain⟨c,hc⟩:=ax hak hx;exact g6.block x (ae hc) nofun
  refine⟨⟨g6.get uR nofun,g6.get m15 nofun,g6.get tY nofun,trivial⟩,?_⟩;refine⟨_,(Ask.mk q g C.q.length).cells,P7,⟨_,_,m6,rfl,rfl,rfl⟩,by show asks.length+1<=_;simp only at hb;omega,λv' w7 oM g7 n7=>?_⟩;have mm:w7.heap[bs]? = _:=g7.get (g6.get tY nofun) λe=>by
   obtain⟨c,hc⟩:=ax P7 e.symm;exact dw (g6.get tY nofun) hc (by decide) rfl
  obtain⟨va,vc,rfl⟩:=af oM;have m57:w7.heap[b1]? = _:=g7.get (g6.get m15 nofun) λe=>by
   obtain⟨c,hc⟩:=ax P7 e.symm;exact dw (g6.get m15 nofun) hc (by decide) rfl
  have IM:w7.heap[b2]? = _:=g7.get (g6.get uR nofun) λe=>by
   obtain⟨c,hc⟩:=ax P7 e.symm;exact dw (g6.get uR nofun) hc (by decide) rfl
  refine⟨_,_,_,mm,rfl,rfl,λw8 m8 g8=>?_⟩;obtain⟨h8,k8⟩:=(h5.au g6).ak' (l:=asks++[⟨q,g,C.q.length⟩]) (by rw[haq];exact g7) (by rw[length_append,map_append,flatten_append];exact oM) (λx hx=>by rw[haq];exact n7 x hx) m8 g8;exact⟨rfl,⟨_,_,_,_,_,_,h8⟩,(((G3.kz.trans k4).trans k5).trans g6.kz).trans k8⟩
end
def Sit.one(A:aO)(S:Sit):Sit:={ S with C:=S.C.eT A S.next,next:=S.next+1 }
def Sit.all(A:aO):Nat->Sit->Sit
 |0,S=>S
 |n+1,S=>if S.next<S.C.q.length then Sit.all A n (S.one A)else S
theorem Sit.zQ{A:aO}{S:Sit}(h:¬S.next<S.C.q.length):∀n,S.all A n=S
 |0=>rfl
 |n+1=>by unfold Sit.all;rw[if_neg h]
theorem Sit.Lh{A:aO}{S:Sit}(h:S.next<S.C.q.length)(n:Nat):S.all A (n+1)=(S.one A).all A n:=by
 show(if S.next<S.C.q.length then Sit.all A n (S.one A)else S)=_;rw[if_pos h]
theorem Sit.GX(A:aO):∀(i m:Nat) (S:Sit),S.all A (i+m)=(S.all A i).all A m
 |0,m,S=>by rw[Nat.zero_add];rfl
 |i+1,m,S=>by
  rw[Nat.add_right_comm];by_cases h:S.next<S.C.q.length
  ·rw[Sit.Lh h,Sit.Lh h];exact Sit.GX A i m (S.one A)
  ·rw[Sit.zQ h,Sit.zQ h,Sit.zQ h]
theorem aL.jl(A:aO)(C:aL)(k:Int):(C.eT A k).n=C.n/\(C.eT A k).sz=C.sz:=by
 unfold aL.eT;split
 ·unfold aL.jQ
  split
  ·exact⟨rfl,rfl⟩
  ·split<;>exact⟨rfl,rfl⟩
 ·exact⟨rfl,rfl⟩
theorem aL.oh(A:aO)(C:aL)(g i:Nat):(C.tick A g i).n=C.n/\(C.tick A g i).sz=C.sz:=by unfold aL.tick;split<;>exact⟨rfl,rfl⟩
theorem aL.vB(A:aO)(C:aL)(g i:Nat):(C.dA A g i).n=C.n/\(C.dA A g i).sz=C.sz:=by unfold aL.dA;split<;>exact⟨rfl,rfl⟩
section
variable{A:aO}(HA:bH A)(HN:dH A){Λ:bU}{w:World}{bs:Nat}{S:Sit}
include HA HN
theorem Sit.Li:∀(n:Nat) {S:Sit},S.C.aJ A->(S.all A n).C.aJ A
 |0,_,h=>h
 |n+1,S,h=>by
  unfold Sit.all;split
  ·exact Sit.Li n (S:=S.one A) (h.eT HA HN (S.next:Int))
  ·exact h
theorem Xf(h:df Λ bs S w)(hF:S.C.aJ A)(most:Nat)(hm:most<=1000000):gQ Tryz.prog 127 #[Ptt bs,.int .i64 most] w (λv w'=>v=.bool true/\df Λ bs (S.all A most) w'/\Kz w w'):=by
 refine tT fD mixed Tryz.func127 rfl rfl ?_;refine⟨λm s wk=>∃i:Nat,m=most - i/\i<=most/\s=[(0,Ptt bs),(1,.int .i64 most),(5,.int .i64 i)]/\df Λ bs (S.all A i) wk/\Kz w wk,⟨_,_,⟨0,rfl,Nat.zero_le _,rfl,h,Kz.refl _⟩,rfl,rfl,rfl,trivial⟩,?_⟩;rintro m s wk ⟨i,rfl,hi,rfl,hS,K⟩;have N9:=Sit.Li HA HN i hF;have hadd:=Sit.GX A i (most - i) S;rw[Nat.add_sub_cancel' hi]at hadd;have hone:(S.all A i).next<(S.all A i).C.q.length->S.all A (i+1)=(S.all A i).one A:=λh=>by
  rw[Sit.GX,Sit.Lh h];rfl
 generalize hT:S.all A i=T at hS N9 hadd hone;obtain⟨bc,a,gv,sv,B,ad,hS⟩:=hS;have hlen:=N9.len;have hmem:=hS.si.mem;refine⟨by kernel_rfl,?_⟩;refine aj (λc=>?_) (λc=>?_)
 ·have c1:i<most:=by simp at c;omega
  refine⟨_,_,hmem,_,rfl,_,_,hmem,_,rfl,_,(rH hS.enter hlen 0 (by decide) (by decide)).x,?_⟩;rintro lv w1 ⟨o1,g1,_⟩;have e0:T.C.q.length - min (0:Int).toNat T.C.q.length=T.C.q.length:=by simp
  rw[e0]at o1;obtain⟨la,lc,rfl⟩:=af o1;have hS1:=hS.au g1;have Jl:=hS1.si.mem;refine⟨⟨Jl,Jl,trivial⟩,?_⟩;refine aj (λd=>?_) (λd=>?_)
  ·have d1:T.next<T.C.q.length:=by have:=Ptq d;omega
   refine⟨by kernel_rfl,_,_,Jl,_,rfl,_,_,Jl,_,rfl,_,BI HA HN hS1.enter N9 (T.next:Int),?_⟩;rintro _ w2 ⟨rfl,hC2,k2⟩;rw[if_pos ⟨by omega,by omega⟩];obtain⟨en,ez⟩:=aL.jl A T.C (T.next:Int);obtain⟨bc',a',RH,bX,B',jM,h2⟩:=hS1.leave en ez hC2 k2;have Xg:=h2.si.mem;refine⟨_,_,Xg,_,rfl,⟨by show _<=((T.next:Nat):Int)+1;omega,by show((T.next:Nat):Int)+1<=_;omega⟩,_,_,_,Xg,rfl,rfl,λw3 m3 g3=>?_⟩;obtain⟨h3,k3⟩:=h2.num (k:=T.next+1) (b:=T.bad) m3 g3;refine⟨by omega,_,_,⟨i+1,rfl,by omega,rfl,?_,((K.trans g1.kz).trans k2).trans k3⟩,⟨rfl,rfl,rfl,trivial⟩,by omega⟩;rw[hone d1];exact⟨_,_,_,_,_,_,h3⟩
  ·have d1:¬T.next<T.C.q.length:=by have:=Ptx d;omega
   refine⟨rfl,?_,K.trans g1.kz⟩;rw[hadd,Sit.zQ d1];exact⟨_,_,_,_,_,_,hS1⟩
 ·have c1:i=most:=by simp at c;omega
  subst c1;rw[hT];exact⟨rfl,⟨_,_,_,_,_,_,hS⟩,K⟩
end
def Sit.j6(A:aO):Nat->Sit->Sit
 |0,S=>S
 |g+1,S=>{ S.j6 A g with C:=(S.j6 A g).C.tick A g 0 }
def Sit.round(A:aO)(S:Sit):Sit:=(S.j6 A S.C.n).all A 20000
section
variable{A:aO}(HA:bH A)(HN:dH A){Λ:bU}{w:World}{bs:Nat}{S:Sit}
theorem Sit.yK(S:Sit):∀g,(S.j6 A g).C.n=S.C.n/\(S.j6 A g).C.sz=S.C.sz
 |0=>⟨rfl,rfl⟩
 |g+1=>⟨(aL.oh A _ _ _).1.trans (Sit.yK S g).1,(aL.oh A _ _ _).2.trans (Sit.yK S g).2⟩
include HA HN
theorem Sit.FP(h:S.C.aJ A):∀g,(S.j6 A g).C.aJ A
 |0=>h
 |g+1=>(Sit.FP h g).tick HA HN _ _
theorem GY(h:df Λ bs S w)(hF:S.C.aJ A)(hz:0<S.C.sz):gQ Tryz.prog 172 #[Ptt bs] w (λv w'=>v=.bool true/\df Λ bs (S.round A) w'/\Kz w w'):=by
 refine tT fD mixed Tryz.func172 rfl rfl ?_;refine⟨λm s wk=>∃g:Nat,m=S.C.n - g/\g<=S.C.n/\s=[(0,Ptt bs),(3,.int .i64 g)]/\df Λ bs (S.j6 A g) wk/\Kz w wk,⟨_,_,⟨0,rfl,Nat.zero_le _,rfl,h,Kz.refl _⟩,rfl,rfl,trivial⟩,?_⟩;rintro m s wk ⟨g,rfl,hg,rfl,hS,K⟩;have hFg:=Sit.FP HA HN hF g;obtain⟨en,ez⟩:=Sit.yK (A:=A) S g;have P8:S.j6 A (g+1)={ S.j6 A g with C:=(S.j6 A g).C.tick A g 0 }:=rfl;have hrd:S.round A=(S.j6 A S.C.n).all A 20000:=rfl;have jh:=hF.n;obtain⟨bc,a,gv,sv,B,ad,hS⟩:=hS;have hmem:=hS.si.mem;refine⟨_,_,hmem,_,rfl,aj (λc=>?_) (λc=>?_)⟩
 ·have c1:g<S.C.n:=by have:=Ptq c;omega
  refine⟨_,_,hmem,_,rfl,.inl ⟨by omega,_,RD HA hS.enter hFg g 0 (by omega) (by omega),?_⟩⟩;rintro _ w1 ⟨rfl,QJ,k1⟩;rw[if_pos ⟨by omega,by omega⟩];obtain⟨en1,ez1⟩:=aL.oh A (S.j6 A g).C g 0;exact⟨by omega,_,_,⟨g+1,rfl,by omega,rfl,hS.leave en1 ez1 QJ k1,K.trans k1⟩,⟨rfl,rfl,trivial⟩,by omega⟩
 ·have c1:g=S.C.n:=by have:=Ptx c;omega
  subst c1;refine⟨_,Xf HA HN ⟨_,_,_,_,_,_,hS⟩ hFg 20000 (by decide),?_⟩;rintro _ w1 ⟨rfl,h1,k1⟩;exact⟨rfl,h1,K.trans k1⟩
end
end
