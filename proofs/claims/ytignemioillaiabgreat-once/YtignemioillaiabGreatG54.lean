/- Lemmas. -/
import Derived.Test.YtignemioillaiabGreatG53
import Derived.Test.YtignemioillaiabGreatG52
namespace Go.Proofs.YtignemioillaiabGreat
set_option maxHeartbeats 8000000
set_option maxRecDepth 100000
open List
section
open Go Go.Conc
theorem Mm.pre{k:Int}{l:List (aW×ag)}{m:Mem}{e:List ag}(h:Mm k l m e):∀l0 l1,l=l0++l1->∃m0 e0 e1,Mm k l0 m0 e0/\e=e0++e1:=by
 induction h with
 |nil =>
  intro l0 l1 e;obtain⟨rfl,rfl⟩:=append_eq_nil_iff.1 e.symm;exact⟨_,_,[],.nil,rfl⟩
 | @snoc l m m' e q r b h hq ha ih =>
  intro l0 l1 el;rcases List.eq_nil_or_concat l1 with rfl|⟨l2,x,rfl⟩
  .rw[Jc1]at el
   rw[<-el];exact⟨_,_,[],.snoc h hq ha,(Jc1 _).symm⟩
  .rw[List.concat_eq_append,<-Jd4]at el
   obtain⟨e1,_⟩:=List.append_inj' el rfl;obtain⟨m0,e0,e2,a,b'⟩:=ih l0 l2 e1;refine⟨m0,e0,if b then e2++[r]else e2,a,?_⟩;rw[b'];cases b
   .rfl
   .exact Jd4 _ _ _
theorem Qb(n:Nat):∀(l:List MC) (s:St),(bR (bJ n) s l).g=s.g
 | [],_=>rfl
 |c::l,s=>(Qb n l _).trans (RU s c).2
section
variable{n:Nat}(h0:0<n)(h4:n<=4){ls:Nat->List MC}{k:Int}
include h0
theorem Pos.j6{W:List (aW×ag)}{m:Mem}(h:Pos n ls k W m){lf:Nat->List MC}(hp:Pre n ls lf)(ht:uj n ls<=4000):(∃M,Go.Proofs.YtignemioillaiabGreat.j6 (bJ n) n lf k 5000 0 0 []=W++M)/\(∀x∈W,∃g' c,g'<n/\c∈ls g'/\c.kind=1/\x.1=c.q):=by
 cases h with
 | @held h g w o mt hh =>
  refine⟨?_,w.mem h0⟩;have:=(w.mono h0 hp).j6 (5000-h);rw[show 5000-h+h=5000 by omega]at this;rw[this];exact zJ _ _ _ _
 | @way h g i out c d r w hc e t ne eW tr es mt hh =>
  have lt:=(Jcn.1 hc).1;refine⟨?_,λx hx=>?_⟩
  .have:=(w.mono h0 hp).j6 (4999-h+1)
   rw[show 4999-h+1+h=5000 by omega]at this;rw[this];unfold Go.Proofs.YtignemioillaiabGreat.j6;rw[hp.at tr.hg hc];dsimp only;rw[hp.st tr.hg (Jft lt),hp.st tr.hg lt,hp.out tr.hg (Jft lt),<-eW];have td:=tr.hd;rw[Jb6 e,Jb5 (by rw[t];omega),Jb5 (by rw[t];omega)];split
   .exact⟨[],(Jc1 _).symm⟩
   .exact zJ _ _ _ _
  .rw[eW]at hx
   rcases Jdc.1 hx with q|q
   .exact w.mem h0 x q
   .exact⟨g,c,tr.hg,Jcv hc,(wE q).1,(wE q).2.2⟩
omit h0 in
theorem Fw.len{h g i:Nat}{out:List (aW×ag)}(w:Fw (bJ n) n ls k h g i out):out.length<=h:=by
 have oc:∀g i c,(iF (bJ n) n ls k g i c).length<=1:=λg i c=>by unfold iF;split<;>simp
 induction w with
 |nil=>exact Jb0 _
 | @stay h g i out c w hc e t ih=>have:=oc g i c;rw[Jc6];omega
 | @move h g i out c d a w hc e t ne hd ca ih=>have:=oc g i c;rw[Jc6];omega
theorem Pos.end{W:List (aW×ag)}{m:Mem}(h:Pos n ls k W m)(G:Ew n ls)(ht:uj n ls<=4000):Go.Proofs.YtignemioillaiabGreat.j6 (bJ n) n ls k 5000 0 0 []=W/\W.length<=4000:=by
 cases h with
 | @held h g w o mt hh =>
  refine⟨?_,by have:=w.len;omega⟩;have:=w.j6 (4999-h+1);rw[show 4999-h+1+h=5000 by omega]at this;rw[this];unfold Go.Proofs.YtignemioillaiabGreat.j6;rw[Jcg (Jb0 _)]
 | @way h g i out c d r w hc e t ne eW tr es mt hh =>
  refine⟨?_,?_⟩
  .have:=w.j6 (4999-h+1)
   rw[show 4999-h+1+h=5000 by omega]at this;rw[this];unfold Go.Proofs.YtignemioillaiabGreat.j6;rw[hc];show(if _ then _ else _)=_;have td:=tr.hd;rw[Jb6 e,Jb5 (by rw[t];omega),Jb5 (by rw[t];omega),<-eW,t,Jfa,<-es];have:qJ (bJ n) n ls d g r.seq=none:=by
    unfold qJ;rw[Option.map_eq_none_iff,find?_eq_none];intro j hj;have hj:=Jc3.1 hj;have e9:(eZ (bJ n) n ls d (j+1)).I.getD g 0<=(stA n ls d).I.getD g 0:=G.up d g td (j+1) hj;have ts:=tr.s;unfold qI;simp only[Jdy,Jdr];omega
   rw[this]
  .have:=w.len
   have oc:(iF (bJ n) n ls k g i c).length<=1:=by unfold iF;split<;>simp
   rw[eW,Jc6];omega
include h4
theorem Vw(hl:∀g,g<n->(ls g).length<=60):uj n ls<=240:=by
 have:∀m,m<=n->fU (λg=>(ls g).length) m<=m*60:=λm=>by
  induction m with
  |zero=>exact λ_=>Jcm _
  |succ m ih =>
   intro hm;have a:=ih (by omega);have b:=hl m (by omega);show fU (λg=>(ls g).length) m+(ls m).length<=_;omega
 have:=this n (Jb0 _);unfold uj;omega
theorem Vx{lf:Nat->List MC}(hf:jF (bJ n) n lf)(hl:∀g,g<n->(lf g).length<=60)(hk:0<=k/\k<18446744073709551616):∃W m e,Go.Proofs.YtignemioillaiabGreat.j6 (bJ n) n lf k 5000 0 0 []=W/\W.length<=4000/\Mm k W m e/\∀{ls:Nat->List MC} {g:Nat} {rep:ag},jF (bJ n) n ls->Pre n ls lf->g<n->TL (bJ n) n (ls g) g rep->rep.key=k->rep.k≠3->rep.k≠4->∃e0 e1,e=e0++e1/\rep∈e0/\∀x∈e0,∃g' c,g'<n/\c∈ls g'/\c.kind=1/\x.c=c.q.c/\x.s=c.q.s/\x.key=c.q.key:=by
 obtain⟨_,kf⟩:=hf.kw h0 h4 hl;obtain⟨W,m,e,kw⟩:=kf k hk.1 hk.2;have tf:uj n lf<=240:=Vw h0 h4 hl;obtain⟨w1,w2⟩:=kw.p.end h0 (hf.glh h0 h4 hl) (by omega);refine⟨W,m,e,w1,w2,kw.mm,λ{ls g rep} h hp hg ht rk k3 k4=>?_⟩;have hl':∀g,g<n->(ls g).length<=60:=λg hg=>Jb1 (hp.len hg) (hl g hg)
 obtain⟨_,ks⟩:=h.kw h0 h4 hl';obtain⟨W0,m0,e0,Ze⟩:=ks k hk.1 hk.2;have t0:uj n ls<=240:=Vw h0 h4 hl';obtain⟨⟨M,x1⟩,x2⟩:=Ze.p.j6 h0 hp (by omega);rw[w1]at x1;obtain⟨m1,f0,f1,y1,y2⟩:=kw.mm.pre W0 M x1;obtain⟨_,z2,_,_,z5,_⟩:=y1.facts;have Eb:∃q,(q,rep)∈W0:=by
  rcases ht with⟨j,c,hj,k1,e⟩|⟨j,q,hj,_,_,hd⟩
  .have hgc:iE n c:=h.gc g c (Jcv hj)
   have ok:=hgc.ask k1;have e:rep=(cB (eZ (bJ n) n ls g j) c).2:=e;have ea:cB (eZ (bJ n) n ls g j) c=iy (eZ (bJ n) n ls g j) c.q:=by unfold cB;rw[Jb6 k1]
   have rr:=Qa (s:=eZ (bJ n) n ls g j) ok;rw[ea]at e;have ck:c.q.key=k:=by rw[<-rk,e];exact rr.2.symm
   refine⟨c.q,?_⟩;rw[e,<-ea];refine Ze.sl g j c hg hj k1 ck ?_;have sg:(eZ (bJ n) n ls g j).g=g:=Qb n _ _;have ns:¬yF (eZ (bJ n) n ls g j).M (eZ (bJ n) n ls g j).g c.q.key (sF c.q)=true:=λz=>by
    unfold iy at e;rw[Jb5 (by rw[ok];decide),Jb6 z]at e;exact k3 (by rw[e])
   have:=Jb ns c.q.key (Jfb _) (by unfold sF;split<;>omega);rw[ck,sg]at this;exact this
  .have:=Ze.dp g j hg hj rep hd rk
   obtain⟨q,a,_⟩:=Ze.mm.facts.2.1 rep this;exact⟨q,a⟩
 obtain⟨q,hq⟩:=Eb;refine⟨f0,f1,y2,z5 q rep hq k3 k4,λx hx=>?_⟩;obtain⟨q',a,b1,b2,b3⟩:=z2 x hx;obtain⟨g',c,c1,c2,c3,c4⟩:=x2 _ a;have c4:q'=c.q:=c4;rw[c4]at b1 b2 b3;exact⟨g',c,c1,c2,c3,b1,b2,b3⟩
end
theorem Vy{x:ag}(hb:x.b)(ho:lJ x=true):nQ (pW {aL 2 with p:=x})=some {aL 2 with p:=x}:=by
 have ok:mo {aL 2 with p:=x}=true:=by
  show(lJ x&&nZ {aL 2 with p:=rV})=true;rw[ho];rfl
 unfold pW;rw[Jb6 ok];have e:(dV (dl (uX (kG {aL 2 with p:=x})))).1={aL 2 with p:=x}:=by
  rw[zy];show(dV (dn ([((2:Nat):Int)]++mK x))).1=_;rw[kM (by decide),RZ,qB,dU (M8 hb ho [])];rfl
 unfold nQ;rw[e,Jb6 ⟨ok,rfl⟩]
def pI(s:St):Prop:=∀p∈s.D,lJ p=true
theorem Vz{q:aW}(h:fV q=true):jN q.c q.s=true:=by
 unfold fV at h;rw[Jdy]at h;exact h.1
theorem NH{s:St}{q:aW}(h:fV q=true):lJ (dN s q)=true:=by
 have a:=Vz h;unfold dN;split
 .unfold lJ
  rw[Jb6 rfl,a];cases hT:iV s.T q.key with
  |true=>rfl
  |false=>unfold oN;rw[hT];rfl
 split
 .unfold lJ jD
  rw[a];split
  .rfl
  split<;>rfl
 split
 .unfold lJ;rw[a];rfl
 split
 .unfold lJ;rw[a];rfl
 .unfold lJ;rw[a];rfl
theorem aee:∀(m:List Pc) (d k:Int),0<=d->d<4->(∀p∈m,0<=p.g/\p.g<4)->0<=own d m k/\own d m k<4
 | [],d,k,h0,h4,_=>⟨h0,h4⟩
 |p::m,d,k,h0,h4,h=>by
  unfold own;have a:=h p (by simp);split
  .exact aee m p.g k a.1 a.2 λq hq=>h q (by simp[hq])
  .exact⟨h0,h4⟩
theorem Zf:∀{m:List Pc} {f g:Int},u7 f g m->∀p∈m,0<=p.g/\p.g<4
 | [],_,_,_,_,h=>by cases h
 |q::m,f,g,h,p,hp=>by
  obtain⟨_,_,_,h1,h2,h3⟩:=h;rcases Jb3.1 hp with rfl|hp
  .exact⟨h1,h2⟩
  .exact Zf h3 p hp
theorem ahP{m:List Pc}(h:Can m):∀p∈m,0<=p.g/\p.g<4:=by
 cases m with
 |nil=>exact h.elim
 |cons q m =>
  obtain⟨h1,h2,h3,h4⟩:=h;intro p hp;rcases Jb3.1 hp with rfl|hp
  .exact⟨h2,h3⟩
  .exact Zf h4 p hp
theorem aaS{N k:Nat}{s:St}(hs:cu N k s)(hd:pI s){q:aW}(hq:q.b)(h:fV q=true):lJ (iy s q).2=true/\(iy s q).2.b:=by
 have a:=Vz h;have b:=Ry hs.tb hq;have z:iB 0:=⟨Jfb 0,by decide⟩;have z8:U8 0:=⟨Jfb 0,by decide⟩;unfold iy;rw[Jb5 (by rw[h];decide)];split
 .have g4:0<=yE s.M s.g q.key (sF q)/\yE s.M s.g q.key (sF q)<4:=by
   have c4:=ahP hs.ok.can;unfold yE;split
   .exact aee s.M 0 _ (Jfb _) (by decide) c4
   .cases e:s.M.find? (zq q.key (sF q))with
    |none=>exact⟨Jfb _,by decide⟩
    |some p=>exact c4 p (Jfd e)
  refine⟨?_,⟨hq.c,hq.s,hq.key,(show U8 3 from⟨by decide,by decide⟩),z,⟨g4.1,by show yE _ _ _ _<256;omega⟩⟩⟩;show(jN q.c q.s&&(decide (yE s.M s.g q.key (sF q)<4)&&(!false&&(0:Int)==0)))=true;rw[a,Jg1 g4.2];rfl
 split
 .split
  .rename_i x e
   split
   .exact⟨NH h,b⟩
   split
   .exact⟨hd x (Jcv e),hs.db x (Jcv e)⟩
   .exact⟨by unfold lJ;rw[a];rfl,⟨hq.c,hq.s,hq.key,(show U8 4 from⟨by decide,by decide⟩),z,z8⟩⟩
  .rename_i e hh
   obtain⟨x,e',_⟩:=Jd ‹_›;rw[e']at hh;cases hh
 .exact⟨NH h,b⟩
theorem pI.app{N:Nat}{s:St}(h:pI s){c:MC}(hc:iE N c):pI (cB s c).1:=by
 have hdo:fV c.q=true->pI (fP s c.q):=λo=>by
  have hr:∀p∈gH s.D (dN s c.q),lJ p=true:=λp hp=>by
   rcases AO hp with rfl|hp
   .exact NH o
   .exact h p hp
  unfold fP;split
  .exact hr
  split
  .exact hr
  split
  .exact λp hp=>hr p (IQ hp)
  .exact hr
 unfold cB;split
 .rename_i k1
  have o:=hc.ask k1;unfold iy;split
  .exact h
  split
  .exact h
  split
  .split
   .split
    .exact hdo o
    .split<;>exact h
   .exact h
  .exact hdo o
 split
 .show pI (mV s c.r)
  unfold mV;split
  .rename_i e
   obtain⟨_,_,h2⟩:=oU e.1;intro p hp;rcases Jdc.1 hp with q|q
   .exact h p (mem_filter.1 q).1
   .rcases Jdc.1 q with q|q
    .have:=(yI h2).2.1 p q
     simp only[Jdy]at this;exact this.1
    .exact h p (mem_filter.1 q).1
  .exact h
 split
 .show pI (lY s c.peer c.seq)
  unfold lY;split<;>exact h
 .exact h
theorem pI.fold{N:Nat}:∀{l:List MC} {s:St},pI s->(∀c∈l,iE N c)->pI (bR (bJ N) s l)
 | [],_,h,_=>h
 |c::l,s,h,hl=>pI.fold (l:=l) (h.app (hl c (by simp))) λc' hc'=>hl c' (by simp[hc'])
theorem XZ(N:Nat):NC (bJ N):=by
 intro g l c hg h4 hl tJ hc k1;have hc:iE N c:=hc;have gd:cu N l.length (bR (bJ N) (kS g N) l):=by
  have:=wo (CX N) ((CX N).Ag g N rfl hg h4) tJ hl l.length (Jb0 _);rw[Jfn]at this;exact this
 have dk:pI (bR (bJ N) (kS g N) l):=pI.fold (λ_ h=>by cases h) hl;have e:((bJ N).ap (bR (bJ N) ((bJ N).bg g N) l) c).2=(iy (bR (bJ N) (kS g N) l) c.q).2:=by
  show(cB (bR (bJ N) (kS g N) l) c).2=_;unfold cB;rw[Jb6 k1]
 have:=aaS gd dk hc.q (hc.ask k1);show(bJ N).dec ((bJ N).enc {aL 2 with p:=((bJ N).ap (bR (bJ N) ((bJ N).bg g N) l) c).2})=some {aL 2 with p:=((bJ N).ap (bR (bJ N) ((bJ N).bg g N) l) c).2}/\0<=((bJ N).ap (bR (bJ N) ((bJ N).bg g N) l) c).2.c;rw[e];exact⟨Vy this.2 this.1,this.2.c.1⟩
end
