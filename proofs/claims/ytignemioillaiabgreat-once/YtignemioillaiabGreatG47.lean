/- Lemmas. -/
import Derived.Test.YtignemioillaiabGreatG46
namespace Go.Proofs.YtignemioillaiabGreat
set_option maxHeartbeats 8000000
set_option maxRecDepth 100000
open List
section
open Go Go.Conc
structure WR(Γ:Gh)(R:MR):Prop where
 b:R.sc.wb=R.sc.b
 vv:∀{b s},Γ.V R.sc.i b s->∃v,R.fJ s=some v/\b.E v.b
 own:R.sc.b.id=R.sc.i->∀{s c},Γ.P R.sc.b s=some c->∃v,R.fJ s=some v/\v.b=R.sc.b
def Or(A:aI)(n sz:Nat)(k:List Ask)(Γ:Nat->Gh)(H:Nat->Nat)(g:Nat)(c:MC):Prop:=A.gc c/\(c.kind=0\/(c.kind=1/\∃a∈k,a.q=c.q/\a.g=g)\/(c.kind=2/\∃g0,g0<n/\Laid A sz n (Γ g0) (H g0) g0 g c.r)\/(c.kind=3/\∃g0:Nat,g0<n/\c.peer=g0/\Came A sz n (Γ g0) (H g0) g0 g c.seq))
def Hw(A:aI)(n:Nat)(ls:Nat->List MC)(g:Nat)(c:MC):Prop:=A.gc c/\(c.kind=0\/c.kind=1\/(c.kind=2/\∃g0:Nat,g0<n/\c.r.src=g0/\c.r.dst=g/\∃j,j<=(ls g0).length/\∃o,(bR A (A.bg g0 n) ((ls g0).take j)).O[g]?=some o/\c.r∈o.2)\/(c.kind=3/\∃g0:Nat,g0<n/\c.peer=g0/\∃j,j<=(ls g0).length/\c.seq<=(bR A (A.bg g0 n) ((ls g0).take j)).I.getD g 0))
def fA(ls:Nat->List MC)(g:Nat)(l:List MC):Nat->List MC:=λg'=>if g'=g then l else ls g'
inductive jF(A:aI)(n:Nat):(Nat->List MC)->Prop
 |nil:jF A n λ_=>[]
 |ext {ls:Nat->List MC} {g:Nat} {c:MC} (h:jF A n ls) (hg:g<n) (hc:Hw A n ls g c):jF A n (fA ls g (ls g++[c]))
theorem Hw.mono{A:aI}{n:Nat}{ls ls':Nat->List MC}{g:Nat}{c:MC}(h:Hw A n ls g c)(hl:∀g0,∃m,ls' g0=ls g0++m):Hw A n ls' g c:=by
 refine⟨h.1,?_⟩;rcases h.2 with e|e|⟨e,g0,h0,e1,e2,j,hj,x⟩|⟨e,g0,h0,e1,j,hj,x⟩
 .exact .inl e
 .exact .inr (.inl e)
 .obtain⟨m,hm⟩:=hl g0
  refine .inr (.inr (.inl ⟨e,g0,h0,e1,e2,j,by rw[hm,Jc6];omega,?_⟩));rw[hm,Jd3 hj];exact x
 .obtain⟨m,hm⟩:=hl g0
  refine .inr (.inr (.inr ⟨e,g0,h0,e1,j,by rw[hm,Jc6];omega,?_⟩));rw[hm,Jd3 hj];exact x
theorem kT(ls:Nat->List MC)(g:Nat)(l:List MC):fA ls g l g=l:=Jb6 rfl
theorem aaG(ls:Nat->List MC)(g:Nat):fA ls g (ls g)=ls:=by
 funext g';unfold fA;split
 .rename_i e;rw[e]
 .rfl
theorem XH(ls:Nat->List MC)(g:Nat)(l m:List MC):fA (fA ls g l) g m=fA ls g m:=by funext g';unfold fA;split<;>rfl
theorem jF.more{A:aI}{n g:Nat}(hg:g<n):∀(m:List MC) {ls:Nat->List MC},jF A n ls->(∀c∈m,Hw A n ls g c)->jF A n (fA ls g (ls g++m))
 | [],ls,h,_=>by rw[Jc1,aaG];exact h
 |c::m,ls,h,hm=>by
  have h1:=jF.ext h hg (hm c (by simp));have h2:=jF.more hg m h1 λc' hc'=>(hm c' (by simp[hc'])).mono λg0=>by
   unfold fA;split
   .rename_i e;rw[e];exact⟨_,rfl⟩
   .exact⟨[],(Jc1 _).symm⟩
  rw[kT,XH,Jd4]at h2;exact h2
theorem DL.pre{sz:Nat}{Γ:Gh}{U:MC->Prop}(o:Γ.Ok sz U){l m:List MC}(h:DL sz Γ l)(k:DL sz Γ m)(hl:l.length<=m.length):l=m.take l.length:=by
 refine Jcd λi=>?_
 rw[Jc5];split
 .rename_i lt
  obtain⟨x,hx⟩:∃x,l[i]?=some x:=⟨l[i],by simp[lt]⟩;obtain⟨y,hy⟩:∃y,m[i]?=some y:=⟨m[i]'(by omega),by simp[show i<m.length by omega]⟩;rw[hx,hy,o.one (h i x hx) (k i y hy)]
 .rw[Jcg (by omega)]
theorem Or.hw{A:aI}{n sz:Nat}{k:List Ask}{Γ:Nat->Gh}{H:Nat->Nat}{U:Nat->MC->Prop}(ok:∀g,g<n->(Γ g).Ok sz (U g)){ls:Nat->List MC}(hl:∀g,g<n->DL sz (Γ g) (ls g)/\(ls g).length=H g){g:Nat}{c:MC}(h:Or A n sz k Γ H g c):Hw A n ls g c:=by
 refine⟨h.1,?_⟩;rcases h.2 with e|⟨e,_⟩|⟨e,g0,h0,e1,e2,l,d,q,o,ho,hr⟩|⟨e,g0,h0,e1,l,d,q,hs⟩
 .exact .inl e
 .exact .inr (.inl e)
 .obtain⟨a,b⟩:=hl g0 h0
  have:=DL.pre (ok g0 h0) d a (by omega);rw[Jfa]at ho;exact .inr (.inr (.inl ⟨e,g0,h0,e1,e2,l.length,by omega,o,by rw[<-this];exact ho,hr⟩))
 .obtain⟨a,b⟩:=hl g0 h0
  have:=DL.pre (ok g0 h0) d a (by omega);rw[Jfa]at hs;exact .inr (.inr (.inr ⟨e,g0,h0,e1,l.length,by omega,by rw[<-this];exact hs⟩))
def PV(A:aI)(n sz:Nat)(k:List Ask)(Γ:Nat->Gh)(H:Nat->Nat)(i:Nat)(p:bF):Prop:=∃(g:Nat) (x:ag) (ls:Nat->List MC),g<n/\p.d=A.enc {aL 2 with p:=x}/\p.tr=x.c.toNat/\jF A n ls/\(∀g',g'<n->DL sz (Γ g') (ls g')/\(ls g').length<=H g')/\TL A n (ls g) g x/\∀g' c,g'<n->c∈ls g'->c.kind=1->∃a∈k,a.q=c.q/\a.p<i
theorem PV.mono{A:aI}{n sz:Nat}{k k':List Ask}{Γ Γ':Nat->Gh}{H H':Nat->Nat}{i:Nat}{p:bF}(h:PV A n sz k Γ H i p)(hk:∀a∈k,a∈k')(hG:∀g,Ext (Γ g) (Γ' g))(hH:∀g,H g<=H' g):PV A n sz k' Γ' H' i p:=by
 obtain⟨g,x,ls,h1,h2,h3,h4,h5,h6,h7⟩:=h;refine⟨g,x,ls,h1,h2,h3,h4,λg' hg'=>⟨(h5 g' hg').1.ext (hG g'),Jb1 (h5 g' hg').2 (hH g')⟩,h6,λg' c a b d=>?_⟩;obtain⟨y,e1,e2⟩:=h7 g' c a b d;exact⟨y,hk y e1,e2⟩
theorem TL.pre{A:aI}{n g:Nat}{l m:List MC}{x:ag}(h:TL A n l g x)(e:l=m.take l.length):TL A n m g x:=by
 have hl:l.length<=m.length:=by have:=congrArg length e;rw[Jd6]at this;omega
 have ht:∀j,j<=l.length->l.take j=m.take j:=λj hj=>by
  conv=>lhs;rw[e]
  rw[Jd5,Jd7 hj]
 rcases h with⟨j,c,h1,h2,h3⟩|⟨j,q,h1,h2,h3,h4⟩
 .have lt:=(Jcn.1 h1).1
  refine .inl ⟨j,c,?_,h2,by rw[<-ht j (Jft lt)];exact h3⟩;rw[e,Jc5,Jb6 lt]at h1;exact h1
 .exact .inr ⟨j,q,by omega,h2,by rw[<-ht j h1];exact h3,by rw[<-ht j h1];exact h4⟩
structure mX(A:aI)(C:aJ)(k:List Ask)(Γ:Nat->Gh)(H:Nat->Nat):Prop where
 ok:∀g,g<C.n->(Γ g).Ok C.sz (Or A C.n C.sz k Γ H g)
 rv:∀g i,g<C.n->i<C.sz->RV A 0 (Γ g) (C.F g i)/\WR (Γ g) (C.F g i)
 hl:∀g i,g<C.n->i<C.sz->(C.F g i).log.length<=H g
 net:∀p∈C.q,(p.fg=255/\∀m,A.dec p.d=some m->m.kind=1->∃a∈k,a.q=m.q/\(a.g:Int)=p.tg)\/∃g j,g<C.n/\j<C.sz/\p.fg=g/\p.fr=j/\vR A C.sz C.n (Γ g) (H g) g j p
 yL:∃ls,(∀g,g<C.n->DL C.sz (Γ g) (ls g)/\(ls g).length=H g)/\jF A C.n ls
 ak:k.Pairwise (λa b=>a.p<b.p)/\∀a∈k,a.p<C.q.length
 Nu:∀i p,C.q[i]?=some p->p.tg=255->PV A C.n C.sz k Γ H i p
def Gr(Γ Γ':Nat->Gh):Prop:=∀g,Ext (Γ g) (Γ' g)
theorem Gr.refl(Γ:Nat->Gh):Gr Γ Γ:=λ_=>.refl _
theorem Or.mono{A:aI}{n sz:Nat}{k k':List Ask}{Γ Γ':Nat->Gh}{H H':Nat->Nat}(hk:∀a∈k,a∈k')(hG:Gr Γ Γ')(hH:∀g,H g<=H' g){g:Nat}{c:MC}(h:Or A n sz k Γ H g c):Or A n sz k' Γ' H' g c:=by
 refine⟨h.1,?_⟩;rcases h.2 with e|⟨e,a,h1,h2⟩|⟨e,g0,h1,h2⟩|⟨e,g0,h1,h2,h3⟩
 .exact .inl e
 .exact .inr (.inl ⟨e,a,hk a h1,h2⟩)
 .exact .inr (.inr (.inl ⟨e,g0,h1,h2.ext (hG g0) (hH g0)⟩))
 .exact .inr (.inr (.inr ⟨e,g0,h1,h2,h3.ext (hG g0) (hH g0)⟩))
section
variable{A:aI}{N:Nat}{U:MC->Prop}{Γ:Gh}{R:MR}
theorem Fx(f:Nat->Option MV)(s:Nat):orM f (λ_=>none) s=f s:=by unfold orM;cases f s<;>rfl
theorem RV.low(h:RV A N Γ R){M:Nat}(hm:M<=R.log.length):RV A M Γ R:=⟨h.fO,h.sn,h.mr,h.one,h.vt,h.wt,h.vv,h.own,h.rC,h.r0,h.eU,h.lead,h.pp,h.ac,h.lg,h.kn,h.st,h.ou,hm,h.gd⟩
theorem RV.start(HA:bG A)(HN:dS A)(ho:Ok A R)(hout:R.out=[])(h:RV A N Γ R)(k:WR Γ R):RV A 0 Γ (mStart A R)/\WR Γ (mStart A R):=by
 refine⟨⟨h.fO.trans k.b.symm,Jb0 _,by show R.sc.wb.id<256;rw[k.b];exact h.mr,λe=>k.b.trans (h.one e),λ{s v} e=>h.wt ((Fx R.fJ s).symm.trans e),h.wt,λ{b s} v=>by
  show ∃v,orM R.fJ (λ_=>none) s=some v/\_;rw[Fx];exact k.vv v,λhi s c hp=>by
  show ∃v,orM R.fJ (λ_=>none) s=some v/\v.b=R.sc.wb;have hi:R.sc.wb.id=R.sc.i:=hi;have hp:Γ.P R.sc.wb s=some c:=hp;rw[k.b]at hi hp |-;rw[Fx];exact k.own hi hp,λr=>(r rfl).elim,λ_=>⟨rfl,λ_=>rfl⟩,λr=>absurd (show(0:Nat)=1 from r) (by decide),λr=>absurd (show(0:Nat)=2 from r) (by decide),nofun,nofun,λe=>absurd e (by simp[mStart]),nofun,rfl,λp hp=>?_,Jcm _,(ho.start HA).st,ho.i.2.1,ho.i.2.2.1,(HN.Ub _ _ ho.i.2.1 ho.i.2.2.1).2⟩,⟨rfl,k.vv,λhi s c hp=>by
  have hi:R.sc.wb.id=R.sc.i:=hi;have hp:Γ.P R.sc.wb s=some c:=hp;show ∃v,R.fJ s=some v/\v.b=R.sc.wb;rw[k.b]at hi hp |-;exact k.own hi hp⟩⟩
 have hp:p∈R.out:=hp;rw[hout]at hp;cases hp
theorem RV.done(h:RV A N Γ R):RV A N Γ (su R)/\WR Γ (su R):=by
 have om:∀{s v},R.cZ s=some v->orM R.cZ R.fJ s=some v:=λe=>by unfold orM;rw[e];rfl
 refine⟨⟨h.fO,h.sn,h.mr,h.one,h.vt,λ{s v} e=>?_,h.vv,h.own,h.rC,h.r0,λr=>⟨(h.eU r).1,(h.eU r).2,(h.eU r).3⟩,λr=>⟨(h.lead r).1,(h.lead r).2⟩,h.pp,h.ac,h.lg,h.kn,h.st,nofun,h.ll,h.gd⟩,rfl,λv=>?_,λhi s c hp=>?_⟩
 .have e:orM R.cZ R.fJ s=some v:=e
  unfold orM at e;cases q:R.cZ s with
  |none=>rw[q]at e;exact h.wt e
  |some x=>rw[q]at e;cases e;exact h.vt q
 .obtain⟨x,a,b⟩:=h.vv v
  exact⟨x,om a,b⟩
 .obtain⟨x,a,b⟩:=h.own hi hp
  exact⟨x,om a,b⟩
theorem WR.other{Γ':Gh}{i:Nat}(h:WR Γ R)(e:yj i Γ Γ')(ne:R.sc.i≠i):WR Γ' R:=⟨h.b,λv=>h.vv (e.V' ne v),λhi _s _c hp=>h.own hi ((e.P' (λq=>ne (hi.symm.trans q))).symm.trans hp)⟩
end
section
variable{A:aI}{C:aJ}{k:List Ask}{Γ:Nat->Gh}{H:Nat->Nat}
def KG(C C':aJ):Prop:=∀g i,g<C.n->i<C.sz->(C.F g i).log.length<=(C'.F g i).log.length
theorem KG.refl(C:aJ):KG C C:=λ_ _ _ _=>Jb0 _
def I9(A:aI)(C C':aJ)(k:List Ask)(Γ:Nat->Gh)(H:Nat->Nat):Prop:=(∃Γ' H',Gr Γ Γ'/\mX A C' k Γ' H'/\∀g,g<C.n->H g<=H' g/\(H' g<=H g\/∃i,i<C.sz/\H' g<=(C'.F g i).log.length))/\KG C C'
theorem I9.refl(h:mX A C k Γ H):I9 A C C k Γ H:=⟨⟨Γ,H,.refl _,h,λ_ _=>⟨Jb0 _,.inl (Jb0 _)⟩⟩,.refl _⟩
theorem mX.done(h:mX A C k Γ H)(fi:C.aK A){g i:Nat}(hg:g<C.n)(hi:i<C.sz){R':MR}(hx:Nx A (C.F g i) R')(ht:To A (C.F g i).log.length (Or A C.n C.sz k Γ H g) (Γ g) (C.F g i) R'):I9 A C (C.done g i R') k Γ H:=by
 obtain⟨G,e,o,r⟩:=ht;obtain⟨a1,a2,a3,a4⟩:=fi.at_ g i hg hi;obtain⟨i1,i2,i3,i4⟩:=hx.id;rw[a2]at e;rw[a4]at o;obtain⟨Γ',eΓ⟩:∃Γ':Nat->Gh,Γ'=λg'=>if g'=g then G else Γ g':=⟨_,rfl⟩
 obtain⟨H',eH⟩:∃H':Nat->Nat,H'=λg'=>if g'=g then max (H g) R'.log.length else H g':=⟨_,rfl⟩
 have E1:Γ' g=G:=by rw[eΓ];exact Jb6 rfl
 have E2:∀{g'},g'≠g->Γ' g'=Γ g':=λq=>by rw[eΓ];exact Jb5 q
 have F1:H' g=max (H g) R'.log.length:=by rw[eH];exact Jb6 rfl
 have F2:∀{g'},g'≠g->H' g'=H g':=λq=>by rw[eH];exact Jb5 q
 have hs:Gr Γ Γ':=λg'=>by
  by_cases q:g'=g
  .subst q;rw[E1];exact e.toExt
  .rw[E2 q];exact .refl _
 have hh:∀g',H g'<=H' g':=λg'=>by
  by_cases q:g'=g
  .subst q;rw[F1];exact Jbt _ _
  .rw[F2 q];exact Jb0 _
 have up:KG C (C.done g i R'):=λg' i' _ _=>by
  show _<=(fF C.F g i (su R') g' i').log.length;by_cases q:g'=g/\i'=i
  .obtain⟨rfl,rfl⟩:=q;rw[bL];exact r.ll
  .rw[aZ _ _ q];exact Jb0 _
 have yL:∃ls,(∀g',g'<C.n->DL C.sz (Γ' g') (ls g')/\(ls g').length=H' g')/\jF A C.n ls:=by
  obtain⟨ls,l1,l2⟩:=h.yL;have lx:∀g',g'<C.n->DL C.sz (Γ' g') (ls g'):=λg' hg'=>(l1 g' hg').1.ext (hs g')
  by_cases le:R'.log.length<=H g
  .refine⟨ls,λg' hg'=>⟨lx g' hg',(l1 g' hg').2.trans ?_⟩,l2⟩
   by_cases q:g'=g
   .subst q;rw[F1];omega
   .rw[F2 q]
  .have dR:DL C.sz G R'.log:=λk c hk=>by have:=r.lg hk;rw[i4,a4]at this;exact this
   have dL:DL C.sz G (ls g):=by rw[<-E1];exact lx g hg
   have pr:=DL.pre o dL dR (by rw[(l1 g hg).2];omega);have e0:R'.log=ls g++R'.log.drop (ls g).length:=by
    have:=(Jgk (ls g).length R'.log).symm;rw[<-pr]at this;exact this
   refine⟨fA ls g R'.log,λg' hg'=>?_,?_⟩
   .unfold fA
    by_cases q:g'=g
    .subst q;rw[Jb6 rfl,E1,F1];exact⟨dR,by omega⟩
    .rw[Jb5 q,F2 q];exact⟨lx g' hg',(l1 g' hg').2⟩
   .rw[e0]
    refine jF.more hg _ l2 λc hc=>?_
    obtain⟨j,hj⟩:=Jdf.1 (mem_of_mem_drop hc);obtain⟨b,p,_⟩:=dR j c hj;exact(o.wh p).1.hw h.ok l1
 have lq:C.q.length<=(C.done g i R').q.length:=by
  show _<=((C.q++R'.out).take 20000).length;have:=fi.len;rw[Jd6,Jc6];omega
 refine⟨⟨Γ',H',hs,⟨λg' hg'=>?_,λg' i' hg' hi'=>?_,λg' i' hg' hi'=>?_,λp hp=>?_,yL,?_,λi' p hp tg=>?_⟩,λg' hg'=>?_⟩,up⟩
 .refine Gh.Ok.mono (U:=Or A C.n C.sz k Γ H g') ?_ λc hc=>hc.mono (λ_ x=>x) hs hh
  by_cases q:g'=g
  .subst q;rw[E1];exact o
  .rw[E2 q];exact h.ok g' hg'
 .show RV A 0 (Γ' g') (fF C.F g i (su R') g' i')/\WR (Γ' g') (fF C.F g i (su R') g' i')
  by_cases q:g'=g
  .subst q
   rw[E1];by_cases q':i'=i
   .subst q'
    rw[bL];exact⟨r.done.1.low (Jcm _),r.done.2⟩
   .rw[aZ _ _ λq=>q' q.2]
    have ne:(C.F g' i').sc.i≠i:=by rw[(fi.at_ g' i' hg' hi').2.1];exact q'
    exact⟨(h.rv g' i' hg' hi').1.other e ne,(h.rv g' i' hg' hi').2.other e ne⟩
  .rw[E2 q,aZ _ _ λx=>q x.1]
   exact h.rv g' i' hg' hi'
 .show(fF C.F g i (su R') g' i').log.length<=_
  by_cases q:g'=g/\i'=i
  .obtain⟨rfl,rfl⟩:=q;rw[bL,F1];exact Jbr _ _
  .rw[aZ _ _ q];exact Jb1 (h.hl g' i' hg' hi') (hh g')
 .rcases Jdc.1 (Jfy hp)with q|q
  .rcases h.net p q with q|⟨g',j,b1,b2,b3,b4,b5⟩
   .exact .inl q
   .exact .inr ⟨g',j,b1,b2,b3,b4,b5.ext (hs g') (hh g')⟩
  .refine .inr ⟨g,i,hg,hi,?_⟩
   have pf:=r.ou p q;rw[i1,i2,i3,i4,a1,a2,a3,a4]at pf;rcases hx.ou p q with q|q
   .rw[fi.out g i hg hi]at q;cases q
   .rw[a1,a2,a3]at q
    refine⟨q.1,q.2.1,?_⟩;rw[E1,F1];exact pf.ext (.refl _) (Jbr _ _)
 .exact⟨h.ak.1,λa ha=>Jbz (h.ak.2 a ha) lq⟩
 .have hp:((C.q++R'.out).take 20000)[i']?=some p:=hp
  rw[Jc5]at hp;split at hp
  .rw[Jgw]at hp
   split at hp
   .exact(h.Nu i' p hp tg).mono (λ_ x=>x) hs hh
   .rename_i ge
    have q:=Jcv hp;have pf:=r.ou p q;rw[i1,i2,i3,i4,a1,a2,a3,a4]at pf;have n4:=fi.n;obtain⟨x,t1,t2,l,t3,t4,t5⟩:=pf.t tg (by omega);obtain⟨ls,l1,l2⟩:=yL;have okG:G.Ok C.sz (Or A C.n C.sz k Γ H g):=o;have lg:=l1 g hg;rw[E1,F1]at lg;refine⟨g,x,ls,hg,t1,t2,l2,λg' hg'=>⟨(l1 g' hg').1,Jc0 (l1 g' hg').2⟩,t5.pre (DL.pre okG t3 lg.1 (by omega)),λg' c hg' hc k1=>?_⟩;obtain⟨j,hj⟩:=Jdf.1 hc;obtain⟨b,pp,_⟩:=(l1 g' hg').1 j c hj;have or:Or A C.n C.sz k Γ H g' c:=by
     by_cases q:g'=g
     .subst q;rw[E1]at pp;exact(o.wh pp).1
     .rw[E2 q]at pp;exact((h.ok g' hg').wh pp).1
    rcases or.2 with e|⟨_,y,y1,y2,_⟩|⟨e,_⟩|⟨e,_⟩
    .omega
    .exact⟨y,y1,y2,by have:=h.ak.2 y y1;omega⟩
    .omega
    .omega
  .cases hp
 .refine⟨hh g',?_⟩
  by_cases q:g'=g
  .subst q
   rw[F1];by_cases l:R'.log.length<=H g'
   .exact .inl (by omega)
   .refine .inr ⟨i,hi,?_⟩
    show _<=(fF C.F g' i (su R') g' i).log.length;rw[bL];show max (H g') R'.log.length<=R'.log.length;omega
  .rw[F2 q];exact .inl (Jb0 _)
variable(HA:bG A)(HN:dS A)(HP:uG A)
include HA HN HP
theorem mX.tick(h:mX A C k Γ H)(fi:C.aK A)(g i:Nat):I9 A C (C.tick A g i) k Γ H:=by
 unfold aJ.tick;split
 .rename_i c
  have o:=fi.ok _ _ c.1 c.2;have a:=fi.at_ g i c.1 c.2;exact h.done fi c.1 c.2 (Nx.tick HA HN o ((fi.sd g i c.1 c.2).2.trans (congrArg Int.ofNat a.1).symm)) (RV.tick HA HN HP (λc x=>x.1) ⟨HA.LZ,.inl rfl⟩ (by rw[a.2.2.2];exact h.ok g c.1) ((h.rv g i c.1 c.2).1.low (Jb0 _)) o)
 .exact .refl h
theorem mX.jW(h:mX A C k Γ H)(fi:C.aK A)(j:Nat):I9 A C (C.jW A j) k Γ H:=by
 unfold aJ.jW;split
 .exact .refl h
 .rename_i p hp
  have hq:=Jcv hp;have hm:=fi.net p hq;split
  .rename_i c
   have o:=fi.ok _ _ c.1 c.2;have a:=fi.at_ _ _ c.1 c.2;have gm:=hm.gm HN fi.sz o (fi.sd _ _ c.1 c.2).1;have et:(p.tg.toNat:Int)=p.tg:=Jfp hm.1.1;refine h.done fi c.1 c.2 (Nx.take HA HN o (hm.f8 fi.n fi.sz).1 gm) (RV.take HA HN HP (λc x=>x.1) ⟨HA.LZ,.inl rfl⟩ (f:=(p.fg.toNat,p.fr.toNat)) (d:=p.d) (by rw[a.2.2.2];exact h.ok _ c.1) ((h.rv _ _ c.1 c.2).1.low (Jb0 _)) o gm (λm hd nq k3 k8=>?_) λm hd nq=>?_)
   .rcases h.net p hq with q|⟨g',j,b1,b2,b3,b4,b5⟩
    .exact(nq ⟨by show p.fg.toNat=255;rw[q.1];rfl,by omega⟩).elim
    .have m1:=(b5.m m hd).mf
     obtain⟨m2,m3,m4⟩:=(b5.m m hd).pax k3 k8;have e1:p.tg.toNat=g':=by omega
     have e2:p.fr.toNat=j:=by omega
     rw[a.1,a.2.2.2];refine⟨by show p.fg.toNat=p.tg.toNat;omega,by show p.fr.toNat<C.sz;omega,m3,m4,?_⟩;rw[e1];show MF C.sz (Γ g') p.fr.toNat m;rw[e2];exact m1
   .have gm:=gm m hd nq
    rcases h.net p hq with⟨q,q'⟩|⟨g',j,b1,b2,b3,b4,b5⟩
    .have k1:m.kind=1:=Jg8 λe=>nq ⟨by show p.fg.toNat=255;rw[q];rfl,e⟩
     obtain⟨x,x1,x2,x3⟩:=q' m hd k1;exact⟨λe=>⟨gm.ask e,.inr (.inl ⟨rfl,x,x1,x2,by omega⟩)⟩,λe=>by omega,λe=>by omega⟩
    .refine⟨λe=>?_,λe=>⟨⟨(gm.lU e).2.2.2,.inr (.inr (.inl ⟨rfl,g',b1,?_⟩))⟩,?_⟩,λe=>⟨(gm.jH e).2.2,.inr (.inr (.inr ⟨rfl,g',b1,((b5.m m hd).jH e).1,?_⟩))⟩⟩
     .rcases hm.2 with⟨c1,_⟩|⟨_,_,_,_,_,_,_,m0,e1,e2⟩
      .have:=fi.n;omega
      .rw[e1]at hd;exact((HN.back _ _ _ e2 hd).k1 e).elim
     .rw[et];exact(b5.m m hd).lU e
     .show m.r.src.toNat=p.fg.toNat
      rw[((b5.m m hd).lU e).1,b3]
     .rw[et];exact((b5.m m hd).jH e).2
  .exact .refl h
omit HP in
theorem mX.dA(h:mX A C k Γ H)(fi:C.aK A)(g i:Nat):mX A (C.dA A g i) k Γ H:=by
 unfold aJ.dA;split
 .rename_i c
  refine⟨h.ok,λg' i' hg' hi'=>?_,λg' i' hg' hi'=>?_,h.net,h.yL,h.ak,h.Nu⟩
  .show RV A 0 (Γ g') (fF C.F g i (mStart A (C.F g i)) g' i')/\WR (Γ g') (fF C.F g i (mStart A (C.F g i)) g' i')
   by_cases q:g'=g/\i'=i
   .obtain⟨rfl,rfl⟩:=q
    rw[bL];exact(h.rv _ _ c.1 c.2).1.start HA HN (fi.ok _ _ c.1 c.2) (fi.out _ _ c.1 c.2) (h.rv _ _ c.1 c.2).2
   .rw[aZ _ _ q];exact h.rv g' i' hg' hi'
  .show(fF C.F g i (mStart A (C.F g i)) g' i').log.length<=_
   by_cases q:g'=g/\i'=i
   .obtain⟨rfl,rfl⟩:=q
    rw[bL];exact Jcm _
   .rw[aZ _ _ q];exact h.hl g' i' hg' hi'
 .exact h
omit HA HN HP in
theorem mX.send(h:mX A C k Γ H)(g i:Nat)(d:ByteArray){k':List Ask}(n4:C.n<=4)(hk':k'=k\/C.q.length<(C.send g i d).q.length/\∃x:Ask,x.p=C.q.length/\k'=k++[x])(hd:C.q.length<20000->g<C.n->i<C.sz->¬d.size>1000->∀m,A.dec d=some m->m.kind=1->∃a∈k',a.q=m.q/\a.g=g):mX A (C.send g i d) k' Γ H:=by
 have hk:∀a∈k,a∈k':=λa ha=>by
  rcases hk' with e|⟨_,x,_,e⟩
  .rw[e];exact ha
  .rw[e];exact Jgx _ ha
 have lq:C.q.length<=(C.send g i d).q.length:=aJ.CV _ _ _ _;have JZ:k'.Pairwise (λa b=>a.p<b.p)/\∀a∈k',a.p<(C.send g i d).q.length:=by
  rcases hk' with e|⟨l,x,xp,e⟩
  .rw[e];exact⟨h.ak.1,λa ha=>Jbz (h.ak.2 a ha) lq⟩
  .rw[e]
   refine⟨Jgp.2 ⟨h.ak.1,by simp,λa ha b hb=>?_⟩,λa ha=>?_⟩
   .rw[Jg6.1 hb,xp];exact h.ak.2 a ha
   .rcases Jdc.1 ha with q|q
    .exact Jbz (h.ak.2 a q) lq
    .rw[Jg6.1 q,xp];exact l
 have Nv:∀j p,(C.send g i d).q[j]?=some p->p.tg=255->PV A C.n C.sz k' Γ H j p:=λj p hp tg=>by
  have old:C.q[j]?=some p->PV A C.n C.sz k' Γ H j p:=λe=>(h.Nu j p e tg).mono hk (λ_=>.refl _) λ_=>Jb0 _
  unfold aJ.send at hp;split at hp
  .rename_i c
   have hp:(ko C.q ⟨255,255,g,i,d⟩)[j]?=some p:=hp;unfold ko at hp;split at hp
   .rw[Jgw]at hp
    split at hp
    .exact old hp
    .have:=Jcv hp
     rw[Jg6]at this;subst this;have tg:(g:Int)=255:=tg;have:=c.1.1;omega
   .exact old hp
  .exact old hp
 have ok':∀g,g<C.n->(Γ g).Ok C.sz (Or A C.n C.sz k' Γ H g):=λg hg=>(h.ok g hg).mono λc hc=>hc.mono hk (.refl _) λ_=>Jb0 _
 have XI:∀p∈C.q,(p.fg=255/\∀m,A.dec p.d=some m->m.kind=1->∃a∈k',a.q=m.q/\(a.g:Int)=p.tg)\/∃g j,g<C.n/\j<C.sz/\p.fg=g/\p.fr=j/\vR A C.sz C.n (Γ g) (H g) g j p:=λp hp=>(h.net p hp).imp (λq=>⟨q.1,λm hm k1=>by obtain⟨a,x,y⟩:=q.2 m hm k1;exact⟨a,hk a x,y⟩⟩) id
 unfold aJ.send at JZ Nv |-;split
 .rename_i c
  rw[Jb6 c]at JZ Nv;refine⟨ok',h.rv,h.hl,λp hp=>?_,h.yL,JZ,Nv⟩;have hp:p∈ko C.q ⟨255,255,g,i,d⟩:=hp;unfold ko at hp;split at hp
  .rename_i lt
   rcases Jdc.1 hp with q|q
   .exact XI p q
   .rw[Jg6]at q;subst q
    refine .inl ⟨rfl,λm hm k1=>?_⟩;obtain⟨a,x,y,z⟩:=hd lt c.1.1 c.1.2 c.2 m hm k1;exact⟨a,x,y,congrArg Int.ofNat z⟩
  .exact XI p hp
 .rename_i c
  rw[Jb5 c]at JZ Nv;exact⟨ok',h.rv,h.hl,XI,h.yL,JZ,Nv⟩
omit HP in
theorem mX.new{n sz:Nat}(hn:n<=4)(hN:n=A.N)(hz:sz<=5):mX A (aJ.new A n sz) [] (λ_=>⟨λ_ _=>none,λ_ _ _=>False,λ_=>⟨0,0⟩⟩) λ_=>0 :=
 ⟨λ_ _=>⟨nofun,nofun,nofun,nofun⟩,λg i hg hi=>⟨⟨rfl,Jb0 _,Jg5 _,λ_=>rfl,nofun,nofun,nofun,λ_ _ _=>nofun,λr=>(r rfl).elim,λ_=>⟨rfl,λ_=>rfl⟩,λr=>absurd (show(0:Nat)=1 from r) (by decide),λr=>absurd (show(0:Nat)=2 from r) (by decide),nofun,nofun,λe=>absurd e (by simp[aJ.new,Fb,mStart]),nofun,rfl,nofun,Jcm _,(Ok.new HA hg hn hN hi hz).st,hg,hn,(HN.Ub g n hg hn).2⟩,rfl,nofun,λ_ _ _=>nofun⟩,λ_ _ _ _=>Jb0 _,nofun,⟨λ_=>[],λ_ _=>⟨λk c h=>absurd h (by simp),rfl⟩,.nil⟩,⟨.nil,nofun⟩,λi p hp=>by cases hp⟩
end
structure bV(A:aI)(S:Sit):Prop where
 fine:S.aK A
 bad:S.bad=false
 gh:∃Γ H,mX A S.C S.asks Γ H/\(∀g,g<S.C.n->DL S.C.sz (Γ g) (S.bz.getD g [])/\(S.bz.getD g []).length<=H g)/\∀g,g<S.C.n->H g<=(S.bz.getD g []).length\/∃i,i<S.C.sz/\H g<=(S.C.F g i).log.length
 le:∀i,i<S.C.n*S.C.sz->S.fell.getD i true=false->S.len.getD i 0<=(S.C.F (bf S.C i) (bQ S.C i)).log.length
def Sit.Ev(S:Sit):Prop:=∀g i,g<S.C.n->i<S.C.sz->(S.C.F g i).log.length<=(S.bz.getD g []).length
theorem Nw{C C':aJ}(hn:C'.n=C.n)(hz:C'.sz=C.sz)(k:Int):bf C' k=bf C k/\bQ C' k=bQ C k:=by unfold bf bQ;rw[hn,hz];exact⟨rfl,rfl⟩
theorem adN{C:aJ}{i:Nat}(h:i<C.n*C.sz):bf C i=i / C.sz/\bQ C i=i%C.sz:=by
 have:bE (i:Int) (C.n*C.sz)=i:=by
  unfold bE;rw[Jb5 (by omega),Jfa];exact Jgb h
 unfold bf bQ;rw[this];exact⟨rfl,rfl⟩
theorem PX{C:aJ}{g i:Nat}(hg:g<C.n)(hi:i<C.sz){d:ByteArray}(hd:¬d.size>1000)(hq:C.q.length<20000):C.q.length<(C.send g i d).q.length:=by
 rw[aJ.I7 hg hi hd hq];exact Jbp _
theorem J6{α:Type}{f:α->α->Bool}(hf:∀x,f x x=true):∀{l m:List α},(∀(k:Nat) (x y:α),l[k]?=some x->m[k]?=some y->x=y)->oW f l m=true
 | [],_,_=>by cases ‹List α› <;> rfl
 |_::_,[],_=>rfl
 |x::l,y::m,h=>by
  have e:=h 0 x y rfl rfl;subst e;show(f x x&&oW f l m)=true;rw[hf x,J6 hf λk a b p q=>h (k+1) a b p q];rfl
theorem Vh(c:MC):vw c c=true:=by simp[vw,U0,rW]
section
variable{A:aI}{S:Sit}
theorem bV.fu(h:bV A S){C:aJ}(hC:C.aK A)(hn:C.n=S.C.n)(hz:C.sz=S.C.sz)(hq:S.C.q.length<=C.q.length)(hg:∀Γ H,mX A S.C S.asks Γ H->I9 A S.C C S.asks Γ H):bV A {S with C:=C}:=by
 obtain⟨Γ,H,h1,h2,h3⟩:=h.gh;obtain⟨⟨Γ',H',g1,g2,g3⟩,hl⟩:=hg Γ H h1;refine⟨h.fine.fu hC hn hz hq,h.bad,⟨Γ',H',g2,λg hg=>?_,λg hg=>?_⟩,λi hi hf=>?_⟩
 .have hg:g<C.n:=hg
  show DL C.sz (Γ' g) _/\_;rw[hn]at hg;rw[hz];exact⟨(h2 g hg).1.ext (g1 g),Jb1 (h2 g hg).2 (g3 g hg).1⟩
 .have hg:g<C.n:=hg
  rw[hn]at hg;show _\/∃i,i<C.sz/\H' g<=(C.F g i).log.length;rw[hz];rcases(g3 g hg).2 with q|q
  .rcases h3 g hg with p|⟨i,p1,p2⟩
   .exact .inl (Jb1 q p)
   .exact .inr ⟨i,p1,Jb1 q (Jb1 p2 (hl g i hg p1))⟩
  .exact .inr q
 .have hi:i<C.n*C.sz:=hi
  rw[hn,hz]at hi;obtain⟨e1,e2⟩:=Nw (C:=S.C) (C':=C) hn hz (i:Int);show _<=(C.F (bf C i) (bQ C i)).log.length;rw[e1,e2];obtain⟨l1,l2⟩:=AX (C:=S.C) (k:=(i:Int)) h.fine.n h.fine.sz;exact Jb1 (h.le i hi hf) (hl _ _ l1 l2)
theorem bV.nxt(h:bV A S)(k:Nat):bV A {S with next:=k}:=⟨⟨h.fine.cl,h.fine.n,h.fine.sz,h.fine.be,h.fine.le,h.fine.fe,h.fine.ak⟩,h.bad,h.gh,h.le⟩
theorem bV.dz(h:bV A S){i:Nat}(hi:i<S.C.n*S.C.sz):(S.dz i).2=true/\bV A (S.dz i).1/\(S.dz i).1.C=S.C/\(∀g,(S.bz.getD g []).length<=((S.dz i).1.bz.getD g []).length)/\(S.C.F (bf S.C i) (bQ S.C i)).log.length<=((S.dz i).1.bz.getD (bf S.C i) []).length:=by
 obtain⟨q1,q2⟩:=h.fine.dz i;obtain⟨Γ,H,h1,h2,h3⟩:=h.gh;obtain⟨l1,l2⟩:=AX (C:=S.C) (k:=(i:Int)) h.fine.n h.fine.sz;have rv:=(h1.rv _ _ l1 l2).1;have sz:=(h.fine.cl.at_ _ _ l1 l2).2.2.2;have lg:∀{k c},(S.C.F (bf S.C i) (bQ S.C i)).log[k]?=some c->(Γ (bf S.C i)).D S.C.sz k c:=λe=>by have:=rv.lg e;rw[sz]at this;exact this
 obtain⟨e1,e2,e3,e4,e5⟩:=S.DN i;have z:¬oW vw (S.C.F (bf S.C i) (bQ S.C i)).log (S.bz.getD (bf S.C i) [])=false:=by
  rw[J6 Vh λk x y p q=>(h1.ok _ l1).one (lg p) ((h2 _ l1).1 k y q)];decide
 have z2:¬((S.C.F (bf S.C i) (bQ S.C i)).log.length<S.len.getD i 0/\S.fell.getD i true=false):=λq=>by have:=h.le i hi q.2;omega
 have eq:S.dz i=({S.dx i with len:=S.len.set i (S.C.F (bf S.C i) (bQ S.C i)).log.length,fell:=S.fell.set i false},true):=by unfold Sit.dz;rw[Jb5 z,Jb5 z2]
 have eb:∀g,(S.dz i).1.bz.getD g []=if bf S.C i=g/\(S.C.F (bf S.C i) (bQ S.C i)).log.length>(S.bz.getD (bf S.C i) []).length then(S.C.F (bf S.C i) (bQ S.C i)).log else S.bz.getD g []:=λg=>by
  rw[eq];show(S.dx i).bz.getD g []=_;unfold Sit.dx;split
  .rename_i c
   show(S.bz.set (bf S.C i) (S.C.F (bf S.C i) (bQ S.C i)).log).getD g []=_;by_cases e:bf S.C i=g
   .subst e
    rw[Jdx,Jgf (by rw[h.fine.be];exact l1),Jb6 ⟨rfl,c⟩];rfl
   .rw[Jdx,Jgg e,<-Jdx,Jb5 λq=>e q.1]
  .rename_i c
   rw[Jb5 λq=>c q.2]
 have ub:∀g,(S.bz.getD g []).length<=((S.dz i).1.bz.getD g []).length:=λg=>by
  rw[eb g];split
  .rename_i q;rw[<-q.1];exact Jft q.2
  .exact Jb0 _
 have ea:(S.dz i).1.asks=S.asks:=by rw[eq];exact e4
 refine⟨by rw[eq],⟨q1,?_,⟨Γ,H,by rw[q2,ea];exact h1,λg hg=>⟨λk c hk=>?_,?_⟩,λg hg=>?_⟩,λj hj hf=>?_⟩,q2,ub,?_⟩
 .rw[eq];exact(S.Xy i).2.trans h.bad
 .rw[q2]at hg |-
  rw[eb g]at hk;split at hk
  .rename_i q;rw[<-q.1];exact lg hk
  .exact(h2 g hg).1 k c hk
 .rw[q2]at hg
  rw[eb g];split
  .rename_i q;rw[<-q.1];exact h1.hl _ _ l1 l2
  .exact(h2 g hg).2
 .rw[q2]at hg |-
  exact(h3 g hg).imp (λq=>Jb1 q (ub g)) id
 .rw[q2]at hj |-
  have hf:(S.fell.set i false).getD j true=false:=by rw[eq]at hf;exact hf
  show(S.dz i).1.len.getD j 0<=_;rw[eq];show(S.len.set i _).getD j 0<=_;by_cases e:i=j
  .subst e
   rw[Jdx,Jgf (by rw[h.fine.le];exact hi)];exact Jb0 _
  .rw[Jdx,Jgg e,<-Jdx]at hf |-
   exact h.le j hj hf
 .rw[eb]
  split
  .exact Jb0 _
  .rename_i q;exact Nat.not_lt.1 λc=>q ⟨rfl,c⟩
theorem bV.dZ(h:bV A S):∀i,i<=S.C.n*S.C.sz->(S.dZ i).2=true/\bV A (S.dZ i).1/\(S.dZ i).1.C=S.C/\∀j:Nat,j<i->(S.C.F (bf S.C j) (bQ S.C j)).log.length<=((S.dZ i).1.bz.getD (bf S.C j) []).length
 |0,_=>⟨rfl,h,rfl,λj hj=>by omega⟩
 |i+1,hi=>by
  have ih:=bV.dZ h i (by omega);unfold Sit.dZ;generalize S.dZ i=p at ih;obtain⟨T,b⟩:=p;obtain⟨rfl,h1,h2,h4⟩:=ih;have h2:T.C=S.C:=h2;obtain⟨a1,a2,a3,a4,a5⟩:=bV.dz h1 (i:=i) (by show i<T.C.n*T.C.sz;rw[h2];omega);refine⟨a1,a2,a3.trans h2,λj hj=>?_⟩;by_cases e:j=i
  .subst e
   have a5:=a5;rw[show T.C=S.C from h2]at a5;exact a5
  .exact Jb1 (h4 j (by omega)) (a4 _)
theorem bV.look(h:bV A S):S.look.2=true/\bV A S.look.1/\S.look.1.C=S.C/\S.look.1.Ev:=by
 obtain⟨a,b,c,d⟩:=h.dZ _ (Jb0 _);refine⟨a,b,c,λg i hg hi=>?_⟩;have c:S.look.1.C=S.C:=c;rw[c]at hg hi |-;have hl:g*S.C.sz+i<S.C.n*S.C.sz:=Jbz (Nat.add_lt_add_left hi _) (by rw[<-Jfk];exact Jcr _ hg);have:=d (g*S.C.sz+i) hl;obtain⟨e1,e2⟩:=adN hl;rw[e1,e2,Nat.mul_comm,Nat.mul_add_div (Jgv (Jcm _) hi),Nat.div_eq_of_lt hi,Nat.add_zero,Nat.mul_add_mod,Jgb hi]at this;exact this
end
section
variable{A:aI}(HA:bG A)(HN:dS A)(HL:uD A)(HP:uG A){S:Sit}
include HA HN HP
theorem bV.eX(h:bV A S)(k:Int):bV A {S with C:=S.C.eX A k}:=by
 refine h.fu (h.fine.cl.eX HA HN k) (aJ.jv _ _ _).1 (aJ.jv _ _ _).2 (aJ.I6 h.fine.cl.len _) λΓ H hc=>?_
 unfold aJ.eX;split
 .exact hc.jW HA HN HP h.fine.cl _
 .exact .refl hc
theorem bV.tick(h:bV A S)(g i:Nat):bV A {S with C:=S.C.tick A g i}:=h.fu (h.fine.cl.tick HA HN g i) (aJ.oV _ _ _ _).1 (aJ.oV _ _ _ _).2 (aJ.Nk h.fine.cl.len _ _) λ_ _ hc=>hc.tick HA HN HP h.fine.cl g i
theorem bV.all:∀(n:Nat) {S:Sit},bV A S->bV A (S.all A n)
 |0,_,h=>h
 |n+1,S,h=>by
  unfold Sit.all;split
  .exact bV.all n (S:=S.one A) ((bV.eX HA HN HP h (S.next:Int)).nxt (S.next+1))
  .exact h
omit HA HN HP in
theorem bV.send(h:bV A S){g i:Nat}(hg:g<S.C.n)(hi:i<S.C.sz)(d:ByteArray){l:List Ask}(hl:l.length<=(S.C.send g i d).q.length)(hk:l=S.asks\/S.C.q.length<(S.C.send g i d).q.length/\∃x:Ask,x.p=S.C.q.length/\l=S.asks++[x])(hd:S.C.q.length<20000->¬d.size>1000->∀m,A.dec d=some m->m.kind=1->∃a∈l,a.q=m.q/\a.g=g):bV A {S with C:=S.C.send g i d,asks:=l}:=by
 have h4:=h.fine.cl.n;have h5:=h.fine.cl.sz;obtain⟨Γ,H,h1,h2,h3⟩:=h.gh;obtain⟨n1,n2⟩:=S.C.qz g i d;have f:=h.fine.fu (h.fine.cl.send (g:=g) (i:=i) (by omega) (by omega) d) n1 n2 (S.C.CV g i _);have eF:(S.C.send g i d).F=S.C.F:=by unfold aJ.send;split<;>rfl
 have c:=h1.send g i d h4 hk λq _ _=>hd q
 refine⟨⟨f.cl,f.n,f.sz,f.be,f.le,f.fe,hl⟩,h.bad,⟨Γ,H,c,?_,?_⟩,?_⟩
 .show ∀g',g'<(S.C.send g i d).n->DL (S.C.send g i d).sz _ _/\_
  rw[n1,n2];exact h2
 .show ∀g',g'<(S.C.send g i d).n->_\/∃i',i'<(S.C.send g i d).sz/\H g'<=((S.C.send g i d).F g' i').log.length
  rw[n1,n2,eF];exact h3
 .intro j hj hf
  have hj:j<(S.C.send g i d).n*(S.C.send g i d).sz:=hj;rw[n1,n2]at hj;obtain⟨e1,e2⟩:=Nw (C:=S.C) (C':=S.C.send g i d) n1 n2 (j:Int);show _<=((S.C.send g i d).F (bf (S.C.send g i d) j) (bQ (S.C.send g i d) j)).log.length;rw[e1,e2,eF];exact h.le j hj hf
omit HA HN HP in
theorem bV.dA(HA:bG A)(HN:dS A)(h:bV A S)(hk:S.Ev)(a:Int):bV A {S with C:=S.C.dA A (bf S.C a) (bQ S.C a),fell:=S.fell.set (bE a (S.C.n*S.C.sz)) true}:=by
 obtain⟨Γ,H,h1,h2,h3⟩:=h.gh;obtain⟨n1,n2⟩:=aJ.wC A S.C (bf S.C a) (bQ S.C a);have f:=h.fine.fu (h.fine.cl.dA HA HN (bf S.C a) (bQ S.C a)) n1 n2 (Jc0 (congrArg length (aJ.PR (A:=A) S.C (bf S.C a) (bQ S.C a)).symm));refine⟨⟨f.cl,f.n,f.sz,f.be,f.le,by show(S.fell.set _ _).length=_;rw[Jgd];exact f.fe,f.ak⟩,h.bad,⟨Γ,H,h1.dA HA HN h.fine.cl _ _,λg hg=>?_,λg hg=>.inl ?_⟩,λj hj hf=>?_⟩
 .show DL (S.C.dA A (bf S.C a) (bQ S.C a)).sz (Γ g) _/\_
  rw[n2];have hg:g<(S.C.dA A (bf S.C a) (bQ S.C a)).n:=hg;rw[n1]at hg;exact h2 g hg
 .have hg:g<(S.C.dA A (bf S.C a) (bQ S.C a)).n:=hg
  rw[n1]at hg;rcases h3 g hg with q|⟨i,q1,q2⟩
  .exact q
  .exact Jb1 q2 (hk g i hg q1)
 .have hj:j<(S.C.dA A (bf S.C a) (bQ S.C a)).n*(S.C.dA A (bf S.C a) (bQ S.C a)).sz:=hj
  rw[n1,n2]at hj;have hf:(S.fell.set (bE a (S.C.n*S.C.sz)) true).getD j true=false:=hf;by_cases e:bE a (S.C.n*S.C.sz)=j
  .subst e
   rw[Jdx,Jgf (by rw[h.fine.fe];exact hj)]at hf;cases hf
  .rw[Jdx,Jgg e,<-Jdx]at hf
   obtain⟨e1,e2⟩:=Nw (C:=S.C) (C':=S.C.dA A (bf S.C a) (bQ S.C a)) n1 n2 (j:Int);obtain⟨e3,e4⟩:=adN hj;show _<=((S.C.dA A (bf S.C a) (bQ S.C a)).F (bf (S.C.dA A (bf S.C a) (bQ S.C a)) j) (bQ (S.C.dA A (bf S.C a) (bQ S.C a)) j)).log.length;rw[e1,e2];have ne:¬(bf S.C j=bf S.C a/\bQ S.C j=bQ S.C a):=λq=>by
    rw[e3,e4]at q;unfold bf bQ at q;have:=Nat.div_add_mod (bE a (S.C.n*S.C.sz)) S.C.sz;rw[<-q.1,<-q.2,Nat.div_add_mod]at this;exact e this.symm
   unfold aJ.dA;split
   .show _<=(fF S.C.F (bf S.C a) (bQ S.C a) (mStart A (S.C.F (bf S.C a) (bQ S.C a))) (bf S.C j) (bQ S.C j)).log.length
    rw[aZ _ _ ne];exact h.le j hj hf
   .exact h.le j hj hf
include HL
theorem bV.do(h:bV A S){t:Stp}(ht:t.wf A):(S.do A t).2=true/\bV A (S.do A t).1:=by
 have f:=Sit.aK.do HA HN HL h.fine ht;have nb:(!S.bad)=true:=by rw[h.bad];rfl
 obtain⟨l1,l2⟩:=AX (C:=S.C) (k:=t.a) h.fine.n h.fine.sz;have key:∀k,((S.yh A t k).1.aK A)->(S.yh A t k).2=true/\bV A (S.yh A t k).1:=λk=>by
  unfold Sit.yh;split
  .intro f
   refine⟨nb,?_⟩;have f:(if S.C.q.length<20000 then S.sends A (dh t.q) (bf S.C t.a) (bQ S.C t.a)else S).aK A:=f;show bV A (if S.C.q.length<20000 then S.sends A (dh t.q) (bf S.C t.a) (bQ S.C t.a)else S);split
   .rename_i c
    rw[Jb6 c]at f;exact h.send l1 l2 (A.enc (pF (dh t.q))) (l:=S.asks++[⟨dh t.q,bf S.C t.a,S.C.q.length⟩]) f.ak (.inr ⟨PX l1 l2 (Nat.not_lt.2 (HL.small _ ht.r)) c,_,rfl,rfl⟩) λ_ _ m hm _=>⟨_,mem_append_right _ Jb4,by rw[HP.ask ht.r hm],rfl⟩
   .exact h
  .intro f
   refine⟨nb,?_⟩;have f:(S.uU A t).aK A:=f;show bV A (S.uU A t);have s1:(∀m,A.dec t.d=some m->¬(m.kind=1/\¬t.d.size>1000/\S.C.q.length<20000))->bV A {S with C:=S.C.send (bf S.C t.a) (bQ S.C t.a) t.d}:=λno=>h.send l1 l2 t.d (l:=S.asks) (Jb1 h.fine.ak (S.C.CV _ _ _)) (.inl rfl) λq1 q2 m hm k1=>(no m hm ⟨k1,q2,q1⟩).elim
   unfold Sit.uU at f |-;split
   .rename_i m hm
    rw[hm]at f;split
    .rename_i c
     have f:(if m.kind=1/\¬t.d.size>1000/\S.C.q.length<20000 then S.doA A t m else{ S with C:=S.C.send (bf S.C t.a) (bQ S.C t.a) t.d}).aK A:=f;rw[Jb6 c]at f;exact h.send l1 l2 t.d (l:=S.asks++[⟨m.q,bf S.C t.a,S.C.q.length⟩]) f.ak (.inr ⟨PX l1 l2 c.2.1 c.2.2,_,rfl,rfl⟩) λ_ _ m' hm' _=>⟨_,mem_append_right _ Jb4,by rw[hm]at hm';cases hm';rfl,rfl⟩
    .rename_i c;exact s1 λm' hm'=>by rw[hm]at hm';cases hm';exact c
   .rename_i hm;exact s1 λm' hm'=>by rw[hm]at hm';cases hm'
  .intro f
   split
   .exact⟨rfl,bV.eX HA HN HP h _⟩
   .exact⟨nb,h⟩
  .intro f
   split
   .exact⟨rfl,bV.eX HA HN HP h _⟩
   .exact⟨nb,h⟩
  .intro f
   exact⟨rfl,bV.tick HA HN HP h _ _⟩
  .intro f
   obtain⟨a1,a2,a3,a4⟩:=h.look;refine⟨a1,?_⟩;show bV A (S.PQ A t);unfold Sit.PQ;have:=a2.dA HA HN a4 t.a;rw[a3]at this |-;exact this
  .intro f
   exact⟨rfl,bV.all HA HN HP _ h⟩
 exact key _ f
omit HL HP in
theorem bV.new{n sz:Nat}(hn:0<n/\n<=4)(hN:n=A.N)(hz:0<sz/\sz<=5):bV A (Sit.new A n sz)/\(Sit.new A n sz).Ev:=by
 refine⟨⟨Sit.aK.new HA HN hn hN hz,rfl,⟨_,_,mX.new HA HN hn.2 hN hz.2,λg hg=>?_,λg hg=>.inl (Jcm _)⟩,λi hi hf=>?_⟩,λg i _ _=>Jcm _⟩
 .have e:(Sit.new A n sz).bz.getD g []=[]:=by
   show(replicate n ([]:List MC)).getD g []=[];rw[Jdx,Jgt];split<;>rfl
  rw[e];exact⟨λk c h=>absurd h (by simp),Jb0 _⟩
 .show(replicate (n*sz) 0).getD i 0<=_
  rw[Jdx,Jgt];split<;>simp
end
theorem DL.len{sz:Nat}{Γ:Gh}{U:MC->Prop}(o:Γ.Ok sz U){l:List MC}(h:DL sz Γ l):l.length<=60/\∀c∈l,U c:=by
 constructor
 .rcases Nat.lt_or_ge 60 l.length with q|q
  .obtain⟨b,p,_⟩:=h 60 l[60] (by simp[q])
   have:=(o.wh p).2;omega
  .exact q
 .intro c hc
  obtain⟨k,hk⟩:=Jdf.1 hc;obtain⟨b,p,_⟩:=h k c hk;exact(o.wh p).1
theorem bV.bz{A:aI}{S:Sit}(h:bV A S){g:Nat}(hg:g<S.C.n):(S.bz.getD g []).length<=60/\∀c∈S.bz.getD g [],A.gc c:=by
 obtain⟨Γ,H,ci,dl,_⟩:=h.gh;have:=(dl g hg).1.len (ci.ok g hg);exact⟨this.1,λc hc=>(this.2 c hc).1⟩
theorem bV.yL{A:aI}{S:Sit}(h:bV A S)(hk:S.Ev):∃ls,jF A S.C.n ls/\∀g,g<S.C.n->ls g=S.bz.getD g []:=by
 obtain⟨Γ,H,ci,dl,hh⟩:=h.gh;obtain⟨ls,l1,l2⟩:=ci.yL;refine⟨ls,l2,λg hg=>?_⟩;have h1:=(l1 g hg).2;have h2:=(dl g hg).2;have h3:H g<=(S.bz.getD g []).length:=by
  rcases hh g hg with q|⟨i,q1,q2⟩
  .exact q
  .exact Jb1 q2 (hk g i hg q1)
 have:=DL.pre (ci.ok g hg) (l1 g hg).1 (dl g hg).1 (by omega);rw[this,Jd2 (by omega)]
end
