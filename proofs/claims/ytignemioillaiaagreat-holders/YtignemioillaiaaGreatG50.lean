/- Lemmas. -/
import Derived.Test.YtignemioillaiaaGreatG49
namespace Go.Proofs.YtignemioillaiaaGreat
set_option maxHeartbeats 8000000
set_option maxRecDepth 100000
open List
section
open Go Go.Conc
structure WR(Γ:Gh)(R:MR):Prop where
 b:R.sc.wb=R.sc.b
 vv:∀{b s},Γ.V R.sc.i b s->∃v,R.fM s=some v/\b.E v.b
 own:R.sc.b.id=R.sc.i->∀{s c},Γ.P R.sc.b s=some c->∃v,R.fM s=some v/\v.b=R.sc.b
def Or(A:aO)(n sz:Nat)(k:List Ask)(Γ:Nat->Gh)(H:Nat->Nat)(g:Nat)(c:MC):Prop:=A.gc c/\(c.kind=0\/(c.kind=1/\∃a∈k,a.q=c.q/\a.g=g)\/(c.kind=2/\∃g0,g0<n/\Laid A sz n (Γ g0) (H g0) g0 g c.r)\/(c.kind=3/\∃g0:Nat,g0<n/\c.peer=g0/\Came A sz n (Γ g0) (H g0) g0 g c.seq))
def Hw(A:aO)(n:Nat)(ls:Nat->List MC)(g:Nat)(c:MC):Prop:=A.gc c/\(c.kind=0\/c.kind=1\/(c.kind=2/\∃g0:Nat,g0<n/\c.r.src=g0/\c.r.dst=g/\∃j,j<=(ls g0).length/\∃o,(dY A (A.bg g0 n) ((ls g0).take j)).O[g]? = some o/\c.r∈o.2)\/(c.kind=3/\∃g0:Nat,g0<n/\c.peer=g0/\∃j,j<=(ls g0).length/\c.seq<=(dY A (A.bg g0 n) ((ls g0).take j)).I.getD g 0))
def kR(ls:Nat->List MC)(g:Nat)(l:List MC):Nat->List MC:=λg'=>if g'=g then l else ls g'
inductive qx(A:aO)(n:Nat):(Nat->List MC)->Prop
 |nil:qx A n λ_=>[]
 |ext {ls:Nat->List MC} {g:Nat} {c:MC} (h:qx A n ls) (hg:g<n) (hc:Hw A n ls g c):qx A n (kR ls g (ls g++[c]))
theorem Hw.mono{A:aO}{n:Nat}{ls ls':Nat->List MC}{g:Nat}{c:MC}(h:Hw A n ls g c)(hl:∀g0,∃m,ls' g0=ls g0++m):Hw A n ls' g c:=by
 refine⟨h.1,?_⟩;rcases h.2 with e|e|⟨e,g0,h0,e1,e2,j,hj,x⟩|⟨e,g0,h0,e1,j,hj,x⟩
 ·exact .inl e
 ·exact .inr (.inl e)
 ·obtain⟨m,hm⟩:=hl g0
  refine .inr (.inr (.inl ⟨e,g0,h0,e1,e2,j,by rw[hm,length_append];omega,?_⟩));rw[hm,take_append_of_le_length hj];exact x
 ·obtain⟨m,hm⟩:=hl g0
  refine .inr (.inr (.inr ⟨e,g0,h0,e1,j,by rw[hm,length_append];omega,?_⟩));rw[hm,take_append_of_le_length hj];exact x
theorem xH(ls:Nat->List MC)(g:Nat)(l:List MC):kR ls g l g=l:=if_pos rfl
theorem Y2(ls:Nat->List MC)(g:Nat):kR ls g (ls g)=ls:=by
 funext g';unfold kR;split
 ·rename_i e;rw[e]
 ·rfl
theorem VQ(ls:Nat->List MC)(g:Nat)(l m:List MC):kR (kR ls g l) g m=kR ls g m:=by funext g';unfold kR;split<;>rfl
theorem qx.more{A:aO}{n g:Nat}(hg:g<n):∀(m:List MC) {ls:Nat->List MC},qx A n ls->(∀c∈m,Hw A n ls g c)->qx A n (kR ls g (ls g++m))
 | [],ls,h,_=>by rw[append_nil,Y2];exact h
 |c::m,ls,h,hm=>by
  have h1:=qx.ext h hg (hm c (by simp));have h2:=qx.more hg m h1 λc' hc'=>(hm c' (by simp[hc'])).mono λg0=>by
   unfold kR;split
   ·rename_i e;rw[e];exact⟨_,rfl⟩
   ·exact⟨[],(append_nil _).symm⟩
  rw[xH,VQ,append_assoc]at h2;exact h2
theorem DL.pre{sz:Nat}{Γ:Gh}{U:MC->Prop}(o:Γ.Ok sz U){l m:List MC}(h:DL sz Γ l)(k:DL sz Γ m)(hl:l.length<=m.length):l=m.take l.length:=by
 refine ext_getElem? λi=>?_
 rw[getElem?_take];split
 ·rename_i lt
  obtain⟨x,hx⟩:∃x,l[i]? = some x:=⟨l[i],by simp[lt]⟩;obtain⟨y,hy⟩:∃y,m[i]? = some y:=⟨m[i]'(by omega),by simp[show i<m.length by omega]⟩;rw[hx,hy,o.one (h i x hx) (k i y hy)]
 ·rw[getElem?_eq_none (by omega)]
theorem Or.hw{A:aO}{n sz:Nat}{k:List Ask}{Γ:Nat->Gh}{H:Nat->Nat}{U:Nat->MC->Prop}(ok:∀g,g<n->(Γ g).Ok sz (U g)){ls:Nat->List MC}(hl:∀g,g<n->DL sz (Γ g) (ls g)/\(ls g).length=H g){g:Nat}{c:MC}(h:Or A n sz k Γ H g c):Hw A n ls g c:=by
 refine⟨h.1,?_⟩;rcases h.2 with e|⟨e,_⟩|⟨e,g0,h0,e1,e2,l,d,q,o,ho,hr⟩|⟨e,g0,h0,e1,l,d,q,hs⟩
 ·exact .inl e
 ·exact .inr (.inl e)
 ·obtain⟨a,b⟩:=hl g0 h0
  have:=DL.pre (ok g0 h0) d a (by omega);rw[Int.toNat_natCast]at ho;exact .inr (.inr (.inl ⟨e,g0,h0,e1,e2,l.length,by omega,o,by rw[<-this];exact ho,hr⟩))
 ·obtain⟨a,b⟩:=hl g0 h0
  have:=DL.pre (ok g0 h0) d a (by omega);rw[Int.toNat_natCast]at hs;exact .inr (.inr (.inr ⟨e,g0,h0,e1,l.length,by omega,by rw[<-this];exact hs⟩))
structure mG(A:aO)(C:aL)(k:List Ask)(Γ:Nat->Gh)(H:Nat->Nat):Prop where
 ok:∀g,g<C.n->(Γ g).Ok C.sz (Or A C.n C.sz k Γ H g)
 rv:∀g i,g<C.n->i<C.sz->RV A 0 (Γ g) (C.F g i)/\WR (Γ g) (C.F g i)
 hl:∀g i,g<C.n->i<C.sz->(C.F g i).log.length<=H g
 net:∀p∈C.q,(p.fg=255/\∀m,A.dec p.d=some m->m.kind=1->∃a∈k,a.q=m.q/\(a.g:Int)=p.tg)\/∃g j,g<C.n/\j<C.sz/\p.fg=g/\p.fr=j/\uT A C.sz C.n (Γ g) (H g) g j p
 Eo:∃ls,(∀g,g<C.n->DL C.sz (Γ g) (ls g)/\(ls g).length=H g)/\qx A C.n ls
def Gr(Γ Γ':Nat->Gh):Prop:=∀g,Ext (Γ g) (Γ' g)
theorem Gr.refl(Γ:Nat->Gh):Gr Γ Γ:=λ_=>.refl _
theorem Or.mono{A:aO}{n sz:Nat}{k k':List Ask}{Γ Γ':Nat->Gh}{H H':Nat->Nat}(hk:∀a∈k,a∈k')(hG:Gr Γ Γ')(hH:∀g,H g<=H' g){g:Nat}{c:MC}(h:Or A n sz k Γ H g c):Or A n sz k' Γ' H' g c:=by
 refine⟨h.1,?_⟩;rcases h.2 with e|⟨e,a,h1,h2⟩|⟨e,g0,h1,h2⟩|⟨e,g0,h1,h2,h3⟩
 ·exact .inl e
 ·exact .inr (.inl ⟨e,a,hk a h1,h2⟩)
 ·exact .inr (.inr (.inl ⟨e,g0,h1,h2.ext (hG g0) (hH g0)⟩))
 ·exact .inr (.inr (.inr ⟨e,g0,h1,h2,h3.ext (hG g0) (hH g0)⟩))
section
variable{A:aO}{N:Nat}{U:MC->Prop}{Γ:Gh}{R:MR}
theorem Ep(f:Nat->Option MV)(s:Nat):orM f (λ_=>none) s=f s:=by unfold orM;cases f s<;>rfl
theorem RV.low(h:RV A N Γ R){M:Nat}(hm:M<=R.log.length):RV A M Γ R:=⟨h.fO,h.sn,h.lX,h.one,h.vt,h.wt,h.vv,h.own,h.qM,h.r0,h.eQ,h.lead,h.pp,h.ac,h.lg,h.kn,h.st,h.ou,hm,h.gd⟩
theorem RV.start(HA:bH A)(HN:dH A)(ho:Ok A R)(hout:R.out=[])(h:RV A N Γ R)(k:WR Γ R):RV A 0 Γ (mStart A R)/\WR Γ (mStart A R):=by
 refine⟨⟨h.fO.trans k.b.symm,Nat.le_refl _,by show R.sc.wb.id<256;rw[k.b];exact h.lX,λe=>k.b.trans (h.one e),λ{s v} e=>h.wt ((Ep R.fM s).symm.trans e),h.wt,λ{b s} v=>by
  show ∃v,orM R.fM (λ_=>none) s=some v/\_;rw[Ep];exact k.vv v,λhi s c hp=>by
  show ∃v,orM R.fM (λ_=>none) s=some v/\v.b=R.sc.wb;have hi:R.sc.wb.id=R.sc.i:=hi;have hp:Γ.P R.sc.wb s=some c:=hp;rw[k.b]at hi hp |-;rw[Ep];exact k.own hi hp,λr=>(r rfl).elim,λ_=>⟨rfl,λ_=>rfl⟩,λr=>absurd (show(0:Nat)=1 from r) (by decide),λr=>absurd (show(0:Nat)=2 from r) (by decide),nofun,nofun,λe=>absurd e (by simp[mStart]),nofun,rfl,λp hp=>?_,Nat.zero_le _,(ho.start HA).st,ho.i.2.1,ho.i.2.2.1,(HN.Rz _ _ ho.i.2.1 ho.i.2.2.1).2⟩,⟨rfl,k.vv,λhi s c hp=>by
  have hi:R.sc.wb.id=R.sc.i:=hi;have hp:Γ.P R.sc.wb s=some c:=hp;show ∃v,R.fM s=some v/\v.b=R.sc.wb;rw[k.b]at hi hp |-;exact k.own hi hp⟩⟩
 have hp:p∈R.out:=hp;rw[hout]at hp;cases hp
theorem RV.done(h:RV A N Γ R):RV A N Γ (rD R)/\WR Γ (rD R):=by
 have om:∀{s v},R.cK s=some v->orM R.cK R.fM s=some v:=λe=>by unfold orM;rw[e];rfl
 refine⟨⟨h.fO,h.sn,h.lX,h.one,h.vt,λ{s v} e=>?_,h.vv,h.own,h.qM,h.r0,λr=>⟨(h.eQ r).1,(h.eQ r).2,(h.eQ r).3⟩,λr=>⟨(h.lead r).1,(h.lead r).2⟩,h.pp,h.ac,h.lg,h.kn,h.st,nofun,h.ll,h.gd⟩,rfl,λv=>?_,λhi s c hp=>?_⟩
 ·have e:orM R.cK R.fM s=some v:=e
  unfold orM at e;cases q:R.cK s with
  |none=>rw[q]at e;exact h.wt e
  |some x=>rw[q]at e;cases e;exact h.vt q
 ·obtain⟨x,a,b⟩:=h.vv v
  exact⟨x,om a,b⟩
 ·obtain⟨x,a,b⟩:=h.own hi hp
  exact⟨x,om a,b⟩
theorem WR.other{Γ':Gh}{i:Nat}(h:WR Γ R)(e:xD i Γ Γ')(ne:R.sc.i≠i):WR Γ' R:=⟨h.b,λv=>h.vv (e.V' ne v),λhi _s _c hp=>h.own hi ((e.P' (λq=>ne (hi.symm.trans q))).symm.trans hp)⟩
end
section
variable{A:aO}{C:aL}{k:List Ask}{Γ:Nat->Gh}{H:Nat->Nat}
def Jo(C C':aL):Prop:=∀g i,g<C.n->i<C.sz->(C.F g i).log.length<=(C'.F g i).log.length
theorem Jo.refl(C:aL):Jo C C:=λ_ _ _ _=>Nat.le_refl _
def Hg(A:aO)(C C':aL)(k:List Ask)(Γ:Nat->Gh)(H:Nat->Nat):Prop:=(∃Γ' H',Gr Γ Γ'/\mG A C' k Γ' H'/\∀g,g<C.n->H g<=H' g/\(H' g<=H g\/∃i,i<C.sz/\H' g<=(C'.F g i).log.length))/\Jo C C'
theorem Hg.refl(h:mG A C k Γ H):Hg A C C k Γ H:=⟨⟨Γ,H,.refl _,h,λ_ _=>⟨Nat.le_refl _,.inl (Nat.le_refl _)⟩⟩,.refl _⟩
theorem mG.done(h:mG A C k Γ H)(fi:C.aJ A){g i:Nat}(hg:g<C.n)(hi:i<C.sz){R':MR}(hx:Nx A (C.F g i) R')(ht:To A (C.F g i).log.length (Or A C.n C.sz k Γ H g) (Γ g) (C.F g i) R'):Hg A C (C.done g i R') k Γ H:=by
 obtain⟨G,e,o,r⟩:=ht;obtain⟨a1,a2,a3,a4⟩:=fi.at_ g i hg hi;obtain⟨i1,i2,i3,i4⟩:=hx.id;rw[a2]at e;rw[a4]at o;obtain⟨Γ',eΓ⟩:∃Γ':Nat->Gh,Γ'=λg'=>if g'=g then G else Γ g':=⟨_,rfl⟩
 obtain⟨H',eH⟩:∃H':Nat->Nat,H'=λg'=>if g'=g then max (H g) R'.log.length else H g':=⟨_,rfl⟩
 have E1:Γ' g=G:=by rw[eΓ];exact if_pos rfl
 have E2:∀{g'},g'≠g->Γ' g'=Γ g':=λq=>by rw[eΓ];exact if_neg q
 have F1:H' g=max (H g) R'.log.length:=by rw[eH];exact if_pos rfl
 have F2:∀{g'},g'≠g->H' g'=H g':=λq=>by rw[eH];exact if_neg q
 have hs:Gr Γ Γ':=λg'=>by
  by_cases q:g'=g
  ·subst q;rw[E1];exact e.toExt
  ·rw[E2 q];exact .refl _
 have hh:∀g',H g'<=H' g':=λg'=>by
  by_cases q:g'=g
  ·subst q;rw[F1];exact Nat.le_max_left _ _
  ·rw[F2 q];exact Nat.le_refl _
 have up:Jo C (C.done g i R'):=λg' i' _ _=>by
  show _<=(fH C.F g i (rD R') g' i').log.length;by_cases q:g'=g/\i'=i
  ·obtain⟨rfl,rfl⟩:=q;rw[bL];exact r.ll
  ·rw[bf _ _ q];exact Nat.le_refl _
 refine⟨⟨Γ',H',hs,⟨λg' hg'=>?_,λg' i' hg' hi'=>?_,λg' i' hg' hi'=>?_,λp hp=>?_,?_⟩,λg' hg'=>?_⟩,up⟩
 ·refine Gh.Ok.mono (U:=Or A C.n C.sz k Γ H g') ?_ λc hc=>hc.mono (λ_ x=>x) hs hh
  by_cases q:g'=g
  ·subst q;rw[E1];exact o
  ·rw[E2 q];exact h.ok g' hg'
 ·show RV A 0 (Γ' g') (fH C.F g i (rD R') g' i')/\WR (Γ' g') (fH C.F g i (rD R') g' i')
  by_cases q:g'=g
  ·subst q
   rw[E1];by_cases q':i'=i
   ·subst q'
    rw[bL];exact⟨r.done.1.low (Nat.zero_le _),r.done.2⟩
   ·rw[bf _ _ λq=>q' q.2]
    have ne:(C.F g' i').sc.i≠i:=by rw[(fi.at_ g' i' hg' hi').2.1];exact q'
    exact⟨(h.rv g' i' hg' hi').1.other e ne,(h.rv g' i' hg' hi').2.other e ne⟩
  ·rw[E2 q,bf _ _ λx=>q x.1]
   exact h.rv g' i' hg' hi'
 ·show(fH C.F g i (rD R') g' i').log.length<=_
  by_cases q:g'=g/\i'=i
  ·obtain⟨rfl,rfl⟩:=q;rw[bL,F1];exact Nat.le_max_right _ _
  ·rw[bf _ _ q];exact Nat.le_trans (h.hl g' i' hg' hi') (hh g')
 ·rcases mem_append.1 (mem_of_mem_take hp)with q|q
  ·rcases h.net p q with q|⟨g',j,b1,b2,b3,b4,b5⟩
   ·exact .inl q
   ·exact .inr ⟨g',j,b1,b2,b3,b4,b5.ext (hs g') (hh g')⟩
  ·refine .inr ⟨g,i,hg,hi,?_⟩
   have pf:=r.ou p q;rw[i1,i2,i3,i4,a1,a2,a3,a4]at pf;rcases hx.ou p q with q|q
   ·rw[fi.out g i hg hi]at q;cases q
   ·rw[a1,a2,a3]at q
    refine⟨q.1,q.2.1,?_⟩;rw[E1,F1];exact pf.ext (.refl _) (Nat.le_max_right _ _)
 ·obtain⟨ls,l1,l2⟩:=h.Eo
  have lx:∀g',g'<C.n->DL C.sz (Γ' g') (ls g'):=λg' hg'=>(l1 g' hg').1.ext (hs g')
  by_cases le:R'.log.length<=H g
  ·refine⟨ls,λg' hg'=>⟨lx g' hg',(l1 g' hg').2.trans ?_⟩,l2⟩
   by_cases q:g'=g
   ·subst q;rw[F1];omega
   ·rw[F2 q]
  ·have dR:DL C.sz G R'.log:=λk c hk=>by have:=r.lg hk;rw[i4,a4]at this;exact this
   have dL:DL C.sz G (ls g):=by rw[<-E1];exact lx g hg
   have pr:=DL.pre o dL dR (by rw[(l1 g hg).2];omega);have e0:R'.log=ls g++R'.log.drop (ls g).length:=by
    have:=(take_append_drop (ls g).length R'.log).symm;rw[<-pr]at this;exact this
   refine⟨kR ls g R'.log,λg' hg'=>?_,?_⟩
   ·unfold kR
    by_cases q:g'=g
    ·subst q;rw[if_pos rfl,E1,F1];exact⟨dR,by omega⟩
    ·rw[if_neg q,F2 q];exact⟨lx g' hg',(l1 g' hg').2⟩
   ·rw[e0]
    refine qx.more hg _ l2 λc hc=>?_
    obtain⟨j,hj⟩:=mem_iff_getElem?.1 (mem_of_mem_drop hc);obtain⟨b,p,_⟩:=dR j c hj;exact(o.wh p).1.hw h.ok l1
 ·refine⟨hh g',?_⟩
  by_cases q:g'=g
  ·subst q
   rw[F1];by_cases l:R'.log.length<=H g'
   ·exact .inl (by omega)
   ·refine .inr ⟨i,hi,?_⟩
    show _<=(fH C.F g' i (rD R') g' i).log.length;rw[bL];show max (H g') R'.log.length<=R'.log.length;omega
  ·rw[F2 q];exact .inl (Nat.le_refl _)
variable(HA:bH A)(HN:dH A)(HP:rV A)
include HA HN HP
theorem mG.tick(h:mG A C k Γ H)(fi:C.aJ A)(g i:Nat):Hg A C (C.tick A g i) k Γ H:=by
 unfold aL.tick;split
 ·rename_i c
  have o:=fi.ok _ _ c.1 c.2;have a:=fi.at_ g i c.1 c.2;exact h.done fi c.1 c.2 (Nx.tick HA HN o ((fi.sd g i c.1 c.2).2.trans (congrArg Int.ofNat a.1).symm)) (RV.tick HA HN HP (λc x=>x.1) ⟨HA.Kk,.inl rfl⟩ (by rw[a.2.2.2];exact h.ok g c.1) ((h.rv g i c.1 c.2).1.low (Nat.le_refl _)) o)
 ·exact .refl h
theorem mG.jQ(h:mG A C k Γ H)(fi:C.aJ A)(j:Nat):Hg A C (C.jQ A j) k Γ H:=by
 unfold aL.jQ;split
 ·exact .refl h
 ·rename_i p hp
  have hq:=List.mem_of_getElem? hp;have hm:=fi.net p hq;split
  ·rename_i c
   have o:=fi.ok _ _ c.1 c.2;have a:=fi.at_ _ _ c.1 c.2;have gm:=hm.gm HN fi.sz o (fi.sd _ _ c.1 c.2).1;have et:(p.tg.toNat:Int)=p.tg:=Int.toNat_of_nonneg hm.1.1;refine h.done fi c.1 c.2 (Nx.take HA HN o (hm.f8 fi.n fi.sz).1 gm) (RV.take HA HN HP (λc x=>x.1) ⟨HA.Kk,.inl rfl⟩ (f:=(p.fg.toNat,p.fr.toNat)) (d:=p.d) (by rw[a.2.2.2];exact h.ok _ c.1) ((h.rv _ _ c.1 c.2).1.low (Nat.le_refl _)) o gm (λm hd nq k3 k8=>?_) λm hd nq=>?_)
   ·rcases h.net p hq with q|⟨g',j,b1,b2,b3,b4,b5⟩
    ·exact(nq ⟨by show p.fg.toNat=255;rw[q.1];rfl,by omega⟩).elim
    ·have m1:=(b5 m hd).mf
     obtain⟨m2,m3,m4⟩:=(b5 m hd).pax k3 k8;have e1:p.tg.toNat=g':=by omega
     have e2:p.fr.toNat=j:=by omega
     rw[a.1,a.2.2.2];refine⟨by show p.fg.toNat=p.tg.toNat;omega,by show p.fr.toNat<C.sz;omega,m3,m4,?_⟩;rw[e1];show MF C.sz (Γ g') p.fr.toNat m;rw[e2];exact m1
   ·have gm:=gm m hd nq
    rcases h.net p hq with⟨q,q'⟩|⟨g',j,b1,b2,b3,b4,b5⟩
    ·have k1:m.kind=1:=Classical.byContradiction λe=>nq ⟨by show p.fg.toNat=255;rw[q];rfl,e⟩
     obtain⟨x,x1,x2,x3⟩:=q' m hd k1;exact⟨λe=>⟨gm.ask e,.inr (.inl ⟨rfl,x,x1,x2,by omega⟩)⟩,λe=>by omega,λe=>by omega⟩
    ·refine⟨λe=>?_,λe=>⟨⟨(gm.lU e).2.2.2,.inr (.inr (.inl ⟨rfl,g',b1,?_⟩))⟩,?_⟩,λe=>⟨(gm.jC e).2.2,.inr (.inr (.inr ⟨rfl,g',b1,((b5 m hd).jC e).1,?_⟩))⟩⟩
     ·rcases hm.2 with⟨c1,_⟩|⟨_,_,_,_,_,_,_,m0,e1,e2⟩
      ·have:=fi.n;omega
      ·rw[e1]at hd;exact((HN.back _ _ _ e2 hd).k1 e).elim
     ·rw[et];exact(b5 m hd).lU e
     ·show m.r.src.toNat=p.fg.toNat
      rw[((b5 m hd).lU e).1,b3]
     ·rw[et];exact((b5 m hd).jC e).2
  ·exact .refl h
omit HP in
theorem mG.dA(h:mG A C k Γ H)(fi:C.aJ A)(g i:Nat):mG A (C.dA A g i) k Γ H:=by
 unfold aL.dA;split
 ·rename_i c
  refine⟨h.ok,λg' i' hg' hi'=>?_,λg' i' hg' hi'=>?_,h.net,h.Eo⟩
  ·show RV A 0 (Γ g') (fH C.F g i (mStart A (C.F g i)) g' i')/\WR (Γ g') (fH C.F g i (mStart A (C.F g i)) g' i')
   by_cases q:g'=g/\i'=i
   ·obtain⟨rfl,rfl⟩:=q
    rw[bL];exact(h.rv _ _ c.1 c.2).1.start HA HN (fi.ok _ _ c.1 c.2) (fi.out _ _ c.1 c.2) (h.rv _ _ c.1 c.2).2
   ·rw[bf _ _ q];exact h.rv g' i' hg' hi'
  ·show(fH C.F g i (mStart A (C.F g i)) g' i').log.length<=_
   by_cases q:g'=g/\i'=i
   ·obtain⟨rfl,rfl⟩:=q
    rw[bL];exact Nat.zero_le _
   ·rw[bf _ _ q];exact h.hl g' i' hg' hi'
 ·exact h
omit HA HN HP in
theorem mG.send(h:mG A C k Γ H)(g i:Nat)(d:ByteArray){k':List Ask}(hk:∀a∈k,a∈k')(hd:C.q.length<20000->g<C.n->i<C.sz->¬d.size > 1000->∀m,A.dec d=some m->m.kind=1->∃a∈k',a.q=m.q/\a.g=g):mG A (C.send g i d) k' Γ H:=by
 have ok':∀g,g<C.n->(Γ g).Ok C.sz (Or A C.n C.sz k' Γ H g):=λg hg=>(h.ok g hg).mono λc hc=>hc.mono hk (.refl _) λ_=>Nat.le_refl _
 have VR:∀p∈C.q,(p.fg=255/\∀m,A.dec p.d=some m->m.kind=1->∃a∈k',a.q=m.q/\(a.g:Int)=p.tg)\/∃g j,g<C.n/\j<C.sz/\p.fg=g/\p.fr=j/\uT A C.sz C.n (Γ g) (H g) g j p:=λp hp=>(h.net p hp).imp (λq=>⟨q.1,λm hm k1=>by obtain⟨a,x,y⟩:=q.2 m hm k1;exact⟨a,hk a x,y⟩⟩) id
 unfold aL.send;split
 ·rename_i c
  refine⟨ok',h.rv,h.hl,λp hp=>?_,h.Eo⟩;have hp:p∈lD C.q ⟨255,255,g,i,d⟩:=hp;unfold lD at hp;split at hp
  ·rename_i lt
   rcases mem_append.1 hp with q|q
   ·exact VR p q
   ·rw[mem_singleton]at q;subst q
    refine .inl ⟨rfl,λm hm k1=>?_⟩;obtain⟨a,x,y,z⟩:=hd lt c.1.1 c.1.2 c.2 m hm k1;exact⟨a,x,y,congrArg Int.ofNat z⟩
  ·exact VR p hp
 ·exact⟨ok',h.rv,h.hl,VR,h.Eo⟩
omit HP in
theorem mG.new{n sz:Nat}(hn:n<=4)(hN:n=A.N)(hz:sz<=5):mG A (aL.new A n sz) [] (λ_=>⟨λ_ _=>none,λ_ _ _=>False,λ_=>⟨0,0⟩⟩) λ_=>0 :=
 ⟨λ_ _=>⟨nofun,nofun,nofun,nofun⟩,λg i hg hi=>⟨⟨rfl,Nat.le_refl _,Nat.zero_lt_succ _,λ_=>rfl,nofun,nofun,nofun,λ_ _ _=>nofun,λr=>(r rfl).elim,λ_=>⟨rfl,λ_=>rfl⟩,λr=>absurd (show(0:Nat)=1 from r) (by decide),λr=>absurd (show(0:Nat)=2 from r) (by decide),nofun,nofun,λe=>absurd e (by simp[aL.new,Ed,mStart]),nofun,rfl,nofun,Nat.zero_le _,(Ok.new HA hg hn hN hi hz).st,hg,hn,(HN.Rz g n hg hn).2⟩,rfl,nofun,λ_ _ _=>nofun⟩,λ_ _ _ _=>Nat.le_refl _,nofun,λ_=>[],λ_ _=>⟨λk c h=>absurd h (by simp),rfl⟩,.nil⟩
end
structure bW(A:aO)(S:Sit):Prop where
 fine:S.aJ A
 bad:S.bad=false
 gh:∃Γ H,mG A S.C S.asks Γ H/\(∀g,g<S.C.n->DL S.C.sz (Γ g) (S.bG.getD g [])/\(S.bG.getD g []).length<=H g)/\∀g,g<S.C.n->H g<=(S.bG.getD g []).length\/∃i,i<S.C.sz/\H g<=(S.C.F g i).log.length
 le:∀i,i<S.C.n*S.C.sz->S.fell.getD i true=false->S.len.getD i 0<=(S.C.F (aY S.C i) (bN S.C i)).log.length
def Sit.Ga(S:Sit):Prop:=∀g i,g<S.C.n->i<S.C.sz->(S.C.F g i).log.length<=(S.bG.getD g []).length
theorem LH{C C':aL}(hn:C'.n=C.n)(hz:C'.sz=C.sz)(k:Int):aY C' k=aY C k/\bN C' k=bN C k:=by unfold aY bN;rw[hn,hz];exact⟨rfl,rfl⟩
theorem adN{C:aL}{i:Nat}(h:i<C.n*C.sz):aY C i=i / C.sz/\bN C i=i%C.sz:=by
 have:bz (i:Int) (C.n*C.sz)=i:=by
  unfold bz;rw[if_neg (by omega),Int.toNat_natCast];exact Nat.mod_eq_of_lt h
 unfold aY bN;rw[this];exact⟨rfl,rfl⟩
theorem IX{α:Type}{f:α->α->Bool}(hf:∀x,f x x=true):∀{l m:List α},(∀(k:Nat) (x y:α),l[k]? = some x->m[k]? = some y->x=y)->oo f l m=true
 | [],_,_=>by cases ‹List α› <;> rfl
 |_::_,[],_=>rfl
 |x::l,y::m,h=>by
  have e:=h 0 x y rfl rfl;subst e;show(f x x && oo f l m)=true;rw[hf x,IX hf λk a b p q=>h (k+1) a b p q];rfl
theorem Tz(c:MC):uG c c=true:=by simp[uG,Te,rq]
section
variable{A:aO}{S:Sit}
theorem bW.fC(h:bW A S){C:aL}(hC:C.aJ A)(hn:C.n=S.C.n)(hz:C.sz=S.C.sz)(hq:S.C.q.length<=C.q.length)(hg:∀Γ H,mG A S.C S.asks Γ H->Hg A S.C C S.asks Γ H):bW A { S with C:=C }:=by
 obtain⟨Γ,H,h1,h2,h3⟩:=h.gh;obtain⟨⟨Γ',H',g1,g2,g3⟩,hl⟩:=hg Γ H h1;refine⟨h.fine.fC hC hn hz hq,h.bad,⟨Γ',H',g2,λg hg=>?_,λg hg=>?_⟩,λi hi hf=>?_⟩
 ·have hg:g<C.n:=hg
  show DL C.sz (Γ' g) _/\_;rw[hn]at hg;rw[hz];exact⟨(h2 g hg).1.ext (g1 g),Nat.le_trans (h2 g hg).2 (g3 g hg).1⟩
 ·have hg:g<C.n:=hg
  rw[hn]at hg;show _\/∃i,i<C.sz/\H' g<=(C.F g i).log.length;rw[hz];rcases(g3 g hg).2 with q|q
  ·rcases h3 g hg with p|⟨i,p1,p2⟩
   ·exact .inl (Nat.le_trans q p)
   ·exact .inr ⟨i,p1,Nat.le_trans q (Nat.le_trans p2 (hl g i hg p1))⟩
  ·exact .inr q
 ·have hi:i<C.n*C.sz:=hi
  rw[hn,hz]at hi;obtain⟨e1,e2⟩:=LH (C:=S.C) (C':=C) hn hz (i:Int);show _<=(C.F (aY C i) (bN C i)).log.length;rw[e1,e2];obtain⟨l1,l2⟩:=oH (C:=S.C) (k:=(i:Int)) h.fine.n h.fine.sz;exact Nat.le_trans (h.le i hi hf) (hl _ _ l1 l2)
theorem bW.nxt(h:bW A S)(k:Nat):bW A { S with next:=k }:=⟨⟨h.fine.cl,h.fine.n,h.fine.sz,h.fine.be,h.fine.le,h.fine.fe,h.fine.ak⟩,h.bad,h.gh,h.le⟩
theorem bW.dz(h:bW A S){i:Nat}(hi:i<S.C.n*S.C.sz):(S.dz i).2=true/\bW A (S.dz i).1/\(S.dz i).1.C=S.C/\(∀g,(S.bG.getD g []).length<=((S.dz i).1.bG.getD g []).length)/\(S.C.F (aY S.C i) (bN S.C i)).log.length<=((S.dz i).1.bG.getD (aY S.C i) []).length:=by
 obtain⟨q1,q2⟩:=h.fine.dz i;obtain⟨Γ,H,h1,h2,h3⟩:=h.gh;obtain⟨l1,l2⟩:=oH (C:=S.C) (k:=(i:Int)) h.fine.n h.fine.sz;have rv:=(h1.rv _ _ l1 l2).1;have sz:=(h.fine.cl.at_ _ _ l1 l2).2.2.2;have lg:∀{k c},(S.C.F (aY S.C i) (bN S.C i)).log[k]? = some c->(Γ (aY S.C i)).D S.C.sz k c:=λe=>by have:=rv.lg e;rw[sz]at this;exact this
 obtain⟨e1,e2,e3,e4,e5⟩:=S.CB i;have z:¬oo uG (S.C.F (aY S.C i) (bN S.C i)).log (S.bG.getD (aY S.C i) [])=false:=by
  rw[IX Tz λk x y p q=>(h1.ok _ l1).one (lg p) ((h2 _ l1).1 k y q)];decide
 have z2:¬((S.C.F (aY S.C i) (bN S.C i)).log.length<S.len.getD i 0/\S.fell.getD i true=false):=λq=>by have:=h.le i hi q.2;omega
 have eq:S.dz i=({ S.dx i with len:=S.len.set i (S.C.F (aY S.C i) (bN S.C i)).log.length,fell:=S.fell.set i false },true):=by unfold Sit.dz;rw[if_neg z,if_neg z2]
 have eb:∀g,(S.dz i).1.bG.getD g []=if aY S.C i=g/\(S.C.F (aY S.C i) (bN S.C i)).log.length > (S.bG.getD (aY S.C i) []).length then(S.C.F (aY S.C i) (bN S.C i)).log else S.bG.getD g []:=λg=>by
  rw[eq];show(S.dx i).bG.getD g []=_;unfold Sit.dx;split
  ·rename_i c
   show(S.bG.set (aY S.C i) (S.C.F (aY S.C i) (bN S.C i)).log).getD g []=_;by_cases e:aY S.C i=g
   ·subst e
    rw[getD_eq_getElem?_getD,getElem?_set_self (by rw[h.fine.be];exact l1),if_pos ⟨rfl,c⟩];rfl
   ·rw[getD_eq_getElem?_getD,getElem?_set_ne e,<-getD_eq_getElem?_getD,if_neg λq=>e q.1]
  ·rename_i c
   rw[if_neg λq=>c q.2]
 have ub:∀g,(S.bG.getD g []).length<=((S.dz i).1.bG.getD g []).length:=λg=>by
  rw[eb g];split
  ·rename_i q;rw[<-q.1];exact Nat.le_of_lt q.2
  ·exact Nat.le_refl _
 have ea:(S.dz i).1.asks=S.asks:=by rw[eq];exact e4
 refine⟨by rw[eq],⟨q1,?_,⟨Γ,H,by rw[q2,ea];exact h1,λg hg=>⟨λk c hk=>?_,?_⟩,λg hg=>?_⟩,λj hj hf=>?_⟩,q2,ub,?_⟩
 ·rw[eq];exact(S.VG i).2.trans h.bad
 ·rw[q2]at hg |-
  rw[eb g]at hk;split at hk
  ·rename_i q;rw[<-q.1];exact lg hk
  ·exact(h2 g hg).1 k c hk
 ·rw[q2]at hg
  rw[eb g];split
  ·rename_i q;rw[<-q.1];exact h1.hl _ _ l1 l2
  ·exact(h2 g hg).2
 ·rw[q2]at hg |-
  exact(h3 g hg).imp (λq=>Nat.le_trans q (ub g)) id
 ·rw[q2]at hj |-
  have hf:(S.fell.set i false).getD j true=false:=by rw[eq]at hf;exact hf
  show(S.dz i).1.len.getD j 0<=_;rw[eq];show(S.len.set i _).getD j 0<=_;by_cases e:i=j
  ·subst e
   rw[getD_eq_getElem?_getD,getElem?_set_self (by rw[h.fine.le];exact hi)];exact Nat.le_refl _
  ·rw[getD_eq_getElem?_getD,getElem?_set_ne e,<-getD_eq_getElem?_getD]at hf |-
   exact h.le j hj hf
 ·rw[eb]
  split
  ·exact Nat.le_refl _
  ·rename_i q;exact Nat.not_lt.1 λc=>q ⟨rfl,c⟩
theorem bW.dX(h:bW A S):∀i,i<=S.C.n*S.C.sz->(S.dX i).2=true/\bW A (S.dX i).1/\(S.dX i).1.C=S.C/\∀j:Nat,j<i->(S.C.F (aY S.C j) (bN S.C j)).log.length<=((S.dX i).1.bG.getD (aY S.C j) []).length
 |0,_=>⟨rfl,h,rfl,λj hj=>by omega⟩
 |i+1,hi=>by
  have ih:=bW.dX h i (by omega);unfold Sit.dX;generalize S.dX i=p at ih;obtain⟨T,b⟩:=p;obtain⟨rfl,h1,h2,h4⟩:=ih;have h2:T.C=S.C:=h2;obtain⟨a1,a2,a3,a4,a5⟩:=bW.dz h1 (i:=i) (by show i<T.C.n*T.C.sz;rw[h2];omega);refine⟨a1,a2,a3.trans h2,λj hj=>?_⟩;by_cases e:j=i
  ·subst e
   have a5:=a5;rw[show T.C=S.C from h2]at a5;exact a5
  ·exact Nat.le_trans (h4 j (by omega)) (a4 _)
theorem bW.look(h:bW A S):S.look.2=true/\bW A S.look.1/\S.look.1.C=S.C/\S.look.1.Ga:=by
 obtain⟨a,b,c,d⟩:=h.dX _ (Nat.le_refl _);refine⟨a,b,c,λg i hg hi=>?_⟩;have c:S.look.1.C=S.C:=c;rw[c]at hg hi |-;have hl:g*S.C.sz+i<S.C.n*S.C.sz:=Nat.lt_of_lt_of_le (Nat.add_lt_add_left hi _) (by rw[<-Nat.succ_mul];exact Nat.mul_le_mul_right _ hg);have:=d (g*S.C.sz+i) hl;obtain⟨e1,e2⟩:=adN hl;rw[e1,e2,Nat.mul_comm,Nat.mul_add_div (Nat.lt_of_le_of_lt (Nat.zero_le _) hi),Nat.div_eq_of_lt hi,Nat.add_zero,Nat.mul_add_mod,Nat.mod_eq_of_lt hi]at this;exact this
end
section
variable{A:aO}(HA:bH A)(HN:dH A)(HL:qb A)(HP:rV A){S:Sit}
include HA HN HP
theorem bW.eT(h:bW A S)(k:Int):bW A { S with C:=S.C.eT A k }:=by
 refine h.fC (h.fine.cl.eT HA HN k) (aL.jl _ _ _).1 (aL.jl _ _ _).2 (aL.Hf h.fine.cl.len _) λΓ H hc=>?_
 unfold aL.eT;split
 ·exact hc.jQ HA HN HP h.fine.cl _
 ·exact .refl hc
theorem bW.tick(h:bW A S)(g i:Nat):bW A { S with C:=S.C.tick A g i }:=h.fC (h.fine.cl.tick HA HN g i) (aL.oh _ _ _ _).1 (aL.oh _ _ _ _).2 (aL.Lr h.fine.cl.len _ _) λ_ _ hc=>hc.tick HA HN HP h.fine.cl g i
theorem bW.all:∀(n:Nat) {S:Sit},bW A S->bW A (S.all A n)
 |0,_,h=>h
 |n+1,S,h=>by
  unfold Sit.all;split
  ·exact bW.all n (S:=S.one A) ((bW.eT HA HN HP h (S.next:Int)).nxt (S.next+1))
  ·exact h
omit HA HN HP in
theorem bW.send(h:bW A S){g i:Nat}(hg:g<S.C.n)(hi:i<S.C.sz)(d:ByteArray){l:List Ask}(hl:l.length<=(S.C.send g i d).q.length)(hk:∀a∈S.asks,a∈l)(hd:S.C.q.length<20000->¬d.size > 1000->∀m,A.dec d=some m->m.kind=1->∃a∈l,a.q=m.q/\a.g=g):bW A { S with C:=S.C.send g i d,asks:=l }:=by
 have h4:=h.fine.cl.n;have h5:=h.fine.cl.sz;obtain⟨Γ,H,h1,h2,h3⟩:=h.gh;obtain⟨n1,n2⟩:=S.C.pV g i d;have f:=h.fine.fC (h.fine.cl.send (g:=g) (i:=i) (by omega) (by omega) d) n1 n2 (S.C.FX g i _);have eF:(S.C.send g i d).F=S.C.F:=by unfold aL.send;split<;>rfl
 have c:=h1.send g i d hk λq _ _=>hd q
 refine⟨⟨f.cl,f.n,f.sz,f.be,f.le,f.fe,hl⟩,h.bad,⟨Γ,H,c,?_,?_⟩,?_⟩
 ·show ∀g',g'<(S.C.send g i d).n->DL (S.C.send g i d).sz _ _/\_
  rw[n1,n2];exact h2
 ·show ∀g',g'<(S.C.send g i d).n->_\/∃i',i'<(S.C.send g i d).sz/\H g'<=((S.C.send g i d).F g' i').log.length
  rw[n1,n2,eF];exact h3
 ·intro j hj hf
  have hj:j<(S.C.send g i d).n*(S.C.send g i d).sz:=hj;rw[n1,n2]at hj;obtain⟨e1,e2⟩:=LH (C:=S.C) (C':=S.C.send g i d) n1 n2 (j:Int);show _<=((S.C.send g i d).F (aY (S.C.send g i d) j) (bN (S.C.send g i d) j)).log.length;rw[e1,e2,eF];exact h.le j hj hf
omit HA HN HP in
theorem bW.dA(HA:bH A)(HN:dH A)(h:bW A S)(hk:S.Ga)(a:Int):bW A { S with C:=S.C.dA A (aY S.C a) (bN S.C a),fell:=S.fell.set (bz a (S.C.n*S.C.sz)) true }:=by
 obtain⟨Γ,H,h1,h2,h3⟩:=h.gh;obtain⟨n1,n2⟩:=aL.vB A S.C (aY S.C a) (bN S.C a);have f:=h.fine.fC (h.fine.cl.dA HA HN (aY S.C a) (bN S.C a)) n1 n2 (Nat.le_of_eq (congrArg length (aL.Oe (A:=A) S.C (aY S.C a) (bN S.C a)).symm));refine⟨⟨f.cl,f.n,f.sz,f.be,f.le,by show(S.fell.set _ _).length=_;rw[length_set];exact f.fe,f.ak⟩,h.bad,⟨Γ,H,h1.dA HA HN h.fine.cl _ _,λg hg=>?_,λg hg=>.inl ?_⟩,λj hj hf=>?_⟩
 ·show DL (S.C.dA A (aY S.C a) (bN S.C a)).sz (Γ g) _/\_
  rw[n2];have hg:g<(S.C.dA A (aY S.C a) (bN S.C a)).n:=hg;rw[n1]at hg;exact h2 g hg
 ·have hg:g<(S.C.dA A (aY S.C a) (bN S.C a)).n:=hg
  rw[n1]at hg;rcases h3 g hg with q|⟨i,q1,q2⟩
  ·exact q
  ·exact Nat.le_trans q2 (hk g i hg q1)
 ·have hj:j<(S.C.dA A (aY S.C a) (bN S.C a)).n*(S.C.dA A (aY S.C a) (bN S.C a)).sz:=hj
  rw[n1,n2]at hj;have hf:(S.fell.set (bz a (S.C.n*S.C.sz)) true).getD j true=false:=hf;by_cases e:bz a (S.C.n*S.C.sz)=j
  ·subst e
   rw[getD_eq_getElem?_getD,getElem?_set_self (by rw[h.fine.fe];exact hj)]at hf;cases hf
  ·rw[getD_eq_getElem?_getD,getElem?_set_ne e,<-getD_eq_getElem?_getD]at hf
   obtain⟨e1,e2⟩:=LH (C:=S.C) (C':=S.C.dA A (aY S.C a) (bN S.C a)) n1 n2 (j:Int);obtain⟨e3,e4⟩:=adN hj;show _<=((S.C.dA A (aY S.C a) (bN S.C a)).F (aY (S.C.dA A (aY S.C a) (bN S.C a)) j) (bN (S.C.dA A (aY S.C a) (bN S.C a)) j)).log.length;rw[e1,e2];have ne:¬(aY S.C j=aY S.C a/\bN S.C j=bN S.C a):=λq=>by
    rw[e3,e4]at q;unfold aY bN at q;have:=Nat.div_add_mod (bz a (S.C.n*S.C.sz)) S.C.sz;rw[<-q.1,<-q.2,Nat.div_add_mod]at this;exact e this.symm
   unfold aL.dA;split
   ·show _<=(fH S.C.F (aY S.C a) (bN S.C a) (mStart A (S.C.F (aY S.C a) (bN S.C a))) (aY S.C j) (bN S.C j)).log.length
    rw[bf _ _ ne];exact h.le j hj hf
   ·exact h.le j hj hf
include HL
theorem bW.do(h:bW A S){t:Stp}(ht:t.wf A):(S.do A t).2=true/\bW A (S.do A t).1:=by
 have f:=Sit.aJ.do HA HN HL h.fine ht;have nb:(!S.bad)=true:=by rw[h.bad];rfl
 obtain⟨l1,l2⟩:=oH (C:=S.C) (k:=t.a) h.fine.n h.fine.sz;have key:∀k,((S.uz A t k).1.aJ A)->(S.uz A t k).2=true/\bW A (S.uz A t k).1:=λk=>by
  unfold Sit.uz;split
  ·intro f
   refine⟨nb,?_⟩;have f:(if S.C.q.length<20000 then S.sends A (dh t.q) (aY S.C t.a) (bN S.C t.a)else S).aJ A:=f;show bW A (if S.C.q.length<20000 then S.sends A (dh t.q) (aY S.C t.a) (bN S.C t.a)else S);split
   ·rename_i c
    rw[if_pos c]at f;exact h.send l1 l2 (A.enc (oI (dh t.q))) (l:=S.asks++[⟨dh t.q,aY S.C t.a,S.C.q.length⟩]) f.ak (λa ha=>mem_append_left _ ha) λ_ _ m hm _=>⟨_,mem_append_right _ mem_cons_self,by rw[HP.ask ht.r hm],rfl⟩
   ·exact h
  ·intro f
   refine⟨nb,?_⟩;have f:(S.uy A t).aJ A:=f;show bW A (S.uy A t);have s1:(∀m,A.dec t.d=some m->¬(m.kind=1/\¬t.d.size > 1000/\S.C.q.length<20000))->bW A { S with C:=S.C.send (aY S.C t.a) (bN S.C t.a) t.d }:=λno=>h.send l1 l2 t.d (l:=S.asks) (Nat.le_trans h.fine.ak (S.C.FX _ _ _)) (λ_ ha=>ha) λq1 q2 m hm k1=>(no m hm ⟨k1,q2,q1⟩).elim
   unfold Sit.uy at f |-;split
   ·rename_i m hm
    rw[hm]at f;split
    ·rename_i c
     have f:(if m.kind=1/\¬t.d.size > 1000/\S.C.q.length<20000 then S.doA A t m else{ S with C:=S.C.send (aY S.C t.a) (bN S.C t.a) t.d }).aJ A:=f;rw[if_pos c]at f;exact h.send l1 l2 t.d (l:=S.asks++[⟨m.q,aY S.C t.a,S.C.q.length⟩]) f.ak (λa ha=>mem_append_left _ ha) λ_ _ m' hm' _=>⟨_,mem_append_right _ mem_cons_self,by rw[hm]at hm';cases hm';rfl,rfl⟩
    ·rename_i c;exact s1 λm' hm'=>by rw[hm]at hm';cases hm';exact c
   ·rename_i hm;exact s1 λm' hm'=>by rw[hm]at hm';cases hm'
  ·intro f
   split
   ·exact⟨rfl,bW.eT HA HN HP h _⟩
   ·exact⟨nb,h⟩
  ·intro f
   split
   ·exact⟨rfl,bW.eT HA HN HP h _⟩
   ·exact⟨nb,h⟩
  ·intro f
   exact⟨rfl,bW.tick HA HN HP h _ _⟩
  ·intro f
   obtain⟨a1,a2,a3,a4⟩:=h.look;refine⟨a1,?_⟩;show bW A (S.Od A t);unfold Sit.Od;have:=a2.dA HA HN a4 t.a;rw[a3]at this |-;exact this
  ·intro f
   exact⟨rfl,bW.all HA HN HP _ h⟩
 exact key _ f
omit HL HP in
theorem bW.new{n sz:Nat}(hn:0<n/\n<=4)(hN:n=A.N)(hz:0<sz/\sz<=5):bW A (Sit.new A n sz)/\(Sit.new A n sz).Ga:=by
 refine⟨⟨Sit.aJ.new HA HN hn hN hz,rfl,⟨_,_,mG.new HA HN hn.2 hN hz.2,λg hg=>?_,λg hg=>.inl (Nat.zero_le _)⟩,λi hi hf=>?_⟩,λg i _ _=>Nat.zero_le _⟩
 ·have e:(Sit.new A n sz).bG.getD g []=[]:=by
   show(replicate n ([]:List MC)).getD g []=[];rw[getD_eq_getElem?_getD,getElem?_replicate];split<;>rfl
  rw[e];exact⟨λk c h=>absurd h (by simp),Nat.le_refl _⟩
 ·show(replicate (n*sz) 0).getD i 0<=_
  rw[getD_eq_getElem?_getD,getElem?_replicate];split<;>simp
end
end
