/- Lemmas. -/
import Derived.Test.YtignemioillaiabGreatG25
namespace Go.Proofs.YtignemioillaiabGreat
set_option maxHeartbeats 8000000
set_option linter.unusedSectionVars false
set_option maxRecDepth 100000
open List
section
open Go Go.Conc
theorem GB.news{w0 w w':World}{d x:Nat}(h:GB (some d) w0 w)(k:GB (some x) w w')(hx:w0.heap.size<=x):GB (some d) w0 w' :=
 ⟨k.os.trans h.os,k.out.trans h.out,Jb1 h.size k.size,λy hy hd=>(k.block y (Jbz hy h.size) (λe=>by cases e;omega)).trans (h.block y hy hd)⟩
def orM(gs gd:Nat->Option MV):Nat->Option MV:=λk=>(gs k).or (gd k)
theorem II{w:World}{d s:Nat}{gd gs:Nat->Option MV}(hd:bT p8 w d gd)(hs:bT p8 w s gs)(hne:s≠d):CY 148 #[.map (some d),.map (some s)] w (λv w'=>v=.tuple #[]/\bT p8 w' d (orM gs gd)/\GB (some d) w w'):=by
 refine aj Tryz.func148 rfl rfl ?_;obtain⟨l,hl,hw⟩:=hs.walk;refine⟨l,hl,λw1 it i1 g1 l1=>?_⟩;obtain⟨hm1,hm2⟩:=hw i1.nodup;have hdo:=hd.obj;refine⟨λn q w'=>∃(todo:List (Int×Value)) (cur:Option (Int×Value)) (g:Nat->Option MV),n=todo.length/\q=[(0,.map (some d)),(7,Ptt it)]/\nS w' it s l todo cur/\bT p8 w' d g/\GB (some d) w w'/\(∀k,g k=orM gs gd k\/(g k=gd k/\∃v,((k:Int),v)∈todo))/\∀p∈todo,p∈l,⟨_,_,⟨l,none,gd,rfl,rfl,i1,hd.keep (λ_ _ h=>h.kz g1.kz) (g1.block _ hd.lt nofun),g1.weak,?_,λ_ h=>h⟩,sb rfl⟩,?_⟩
 .intro k
  cases hk:gs k with
  |none=>exact .inl (by unfold orM;rw[hk];rfl)
  |some x=>exact .inr ⟨rfl,by obtain⟨v,h,_⟩:=hm2 k x hk;exact⟨v,h⟩⟩
 rintro n q w2 ⟨todo,cur,g,rfl,rfl,i2,hg,gg,hinv,hsub⟩;refine⟨s,l,todo,cur,i2,λe0=>?_,?_⟩
 .subst e0
  have:g=orM gs gd:=funext λk=>(hinv k).elim id λh=>by obtain⟨_,_,h⟩:=h;cases h
  rw[<-this];exact⟨rfl,hg,gg⟩
 .rintro i ⟨pk,pv⟩ w3 hi i3 g3
  obtain⟨k,x,rfl,ny,rv,dv,rfl,hr⟩:=hm1 _ (hsub _ (Jcv hi));obtain⟨ra,rn,rc,da,dn,dc,rfl,rfl⟩:=hr.sl;have hil:i<todo.length:=(Jcn.1 hi).1;have Rb:it<w3.heap.size:=by obtain⟨_,_,_,_,h⟩:=i3.it;exact ae h
  have slt:s<w3.heap.size:=Jbz (Jbz hs.lt gg.size) g3.size;have Yo:it≠d:=λe=>by have:=hd.lt;omega
  refine⟨s,l,_,_,i3,λw4 b4 m4 g4 l4=>⟨_,_,_,m4,rfl,rfl,λw5 m5 g5=>?_⟩⟩;have vF:GB none w3 w5:=g4.new g5 l4;have k23:Kz w2 w3:=g3.Ei λc t _ hh=>by obtain⟨_,_,_,_,h⟩:=i2.it;rw[h]at hh;cases hh
  have hg3:bT p8 w3 d g:=hg.keep (λ_ _ h=>h.kz k23) (g3.block _ hg.lt λe=>Yo (Jbm e).symm);have hg5:bT p8 w5 d g:=hg3.keep (λ_ _ h=>h.kz vF.kz) (vF.block _ hg3.lt nofun);have gg5:GB (some d) w w5:=(gg.news g3 l1).trans vF.weak;have Yp:=hg5.obj;obtain⟨f,e1,e2,e3⟩:=hg5;refine⟨_,_,m5,kE x (.slice ra rn rc) (.slice da dn dc),rfl,rfl,f,e1,λw6 m6 g6=>?_⟩;have k56:Kz w5 w6:=g6.Ei λc t _ hh=>by obtain⟨_,_,h⟩:=Yp;rw[h]at hh;cases hh
  have Q0:Kz w w5:=gg5.Ei λc t _ hh=>by obtain⟨_,_,h⟩:=hdo;rw[h]at hh;cases hh
  have hv6:p8 w6 (.agg (kE x (.slice ra rn rc) (.slice da dn dc)).toArray) x:=⟨_,_,rfl,(hr.kz Q0).kz k56⟩;refine⟨_,_,⟨todo.eraseIdx i,_,upd g k (some x),rfl,rfl,i3.keep ((g6.block _ (Jbz Rb vF.size) λe=>Yo (Jbm e)).trans (vF.block _ Rb nofun)) ((g6.block _ (Jbz slt vF.size) λe=>hne (Jbm e)).trans (vF.block _ slt nofun)),bT.put (λ_ _ h=>h.kz k56) e2 e3 hv6 m6,gg5.trans g6,?_,λp hp=>hsub p (Jdj hp)⟩,(sb rfl),?_⟩
  .intro k'
   unfold upd;by_cases e:k'=k
   .subst e
    rw[Jb6 rfl];exact .inl (by unfold orM;rw[ny];rfl)
   .rw[Jb5 e]
    rcases hinv k' with h|⟨h,v,hv⟩
    .exact .inl h
    .exact .inr ⟨h,v,mem_erase hv hi λe'=>e (by have:=congrArg Prod.fst e';dsimp only at this;omega)⟩
  .rw[length_eraseIdx,Jb6 hil];omega
def lN(A:aI)(R:MR)(i:Nat):MR:=if 2*pc (jl R.sc.prom i)>R.sc.sz then pz A {R with sc:={R.sc with prom:=jl R.sc.prom i} }else{ R with sc:={R.sc with prom:=jl R.sc.prom i} }
section
variable{A:aI}(HA:bG A){Λ:bW}{w:World}{br:Nat}{R:MR}
omit HA in
theorem Ok.prom(ho:Ok A R){i:Nat}(hi:i<5):Ok A {R with sc:={R.sc with prom:=jl R.sc.prom i} }:=⟨ho.sz,ho.i,ho.st,ho.kn,ho.pp,ho.vt,ho.wv,ho.mt,ho.ac,wV ho.pr hi,ho.lg,ho.lc,ho.nx,ho.sn⟩
include HA
theorem Ok.Ai(ho:Ok A R){i:Nat}(hi:i<5):Ok A (lN A R i)/\(lN A R i).out.length<=R.out.length+20000/\(lN A R i).sc.i=R.sc.i/\(lN A R i).sc.sz=R.sc.sz:=by
 unfold lN;split
 .exact(ho.prom hi).lead HA
 .exact⟨ho.prom hi,Jbv _ _,rfl,rfl⟩
theorem O4(h:Wk Λ br R w)(ho:Ok A R){i:Nat}(hi:i<5)(hb:R.out.length<=840000):CY 141 #[Ptt br,.int .u8 i] w (λv w'=>v=.tuple #[]/\Wk Λ br (lN A R i) w'/\Kz w w'):=by
 obtain⟨a,h⟩:=h;refine aj Tryz.func141 rfl rfl ?_;refine⟨_,_,h.ri.mem,_,rfl,_,OX w _ i ho.pr hi,?_⟩;rintro _ w1 ⟨rfl,rfl⟩;refine⟨_,_,_,h.ri.mem,rfl,rfl,λw2 m2 g2=>?_⟩;have h2:=h.cell (s':={R.sc with prom:=jl R.sc.prom i}) m2 g2;have k2:=h.ri.kz h.ri.jy g2;refine⟨by kernel_rfl,_,_,h2.ri.mem,_,rfl,_,_,h2.ri.mem,_,rfl,_,OW w2 _ _ (wV ho.pr hi),?_⟩;rintro _ w3 ⟨rfl,rfl⟩;refine ah (λd=>?_) (λd=>?_)
 .have d1:2*pc (jl R.sc.prom i)>R.sc.sz:=Ptq d
  have em:lN A R i=pz A {R with sc:={R.sc with prom:=jl R.sc.prom i} }:=Jb6 d1;rw[em];refine⟨_,ZW HA ⟨_,h2⟩ (ho.prom hi) hb,?_⟩;rintro _ w4 ⟨rfl,h4,k4⟩;exact⟨rfl,h4,k2.trans k4⟩
 .have d1:¬2*pc (jl R.sc.prom i)>R.sc.sz:=Ptx d
  have em:lN A R i={R with sc:={R.sc with prom:=jl R.sc.prom i} }:=Jb5 d1;rw[em];exact⟨rfl,⟨_,h2⟩,k2⟩
end
def rZ(R:MR):MR:={cz R with sc:={ (cz R).sc with role:=1},met:=orM (cz R).cZ (cz R).met}
def nX(A:aI)(R:MR):MR:=if R.sc.sz=1\/R.sc.seen≠4294967295 then lN A (rZ R) R.sc.i else R
def nA(g:Nat->Option MV)(v:MV):Nat->Option MV:=match g v.slot with
 |none=>upd g v.slot (some v)
 |some o=>if o.b.lt v.b=true then upd g v.slot (some v)else g
section
variable{A:aI}{R:MR}
theorem Ep(R:MR):(cz R).sc.sz=R.sc.sz/\(cz R).sc.i=R.sc.i/\(cz R).out=R.out/\(cz R).met=R.met/\(cz R).cZ=R.cZ:=by
 unfold cz;split
 .exact⟨rfl,rfl,rfl,rfl,rfl⟩
 .exact⟨rfl,rfl,rfl,rfl,rfl⟩
theorem Ok.raise(ho:Ok A R):Ok A (cz R):=by
 have:=ho.sn;unfold cz;split
 .exact ho
 .rename_i h
  exact⟨ho.sz,ho.i,ho.st,ho.kn,ho.pp,ho.vt,ho.wv,ho.mt,ho.ac,ho.pr,ho.lg,ho.lc,ho.nx,by show R.sc.seen+1<=_;omega,by show R.sc.seen+1<=_;omega,ho.sn.2.2⟩
theorem Ok.Ku(ho:Ok A R):Ok A (rZ R):=by
 have o:=ho.raise;refine⟨o.sz,o.i,o.st,o.kn,o.pp,o.vt,o.wv,λk v h=>?_,o.ac,o.pr,o.lg,o.lc,o.nx,o.sn⟩;have h:orM (cz R).cZ (cz R).met k=some v:=h;unfold orM at h;cases hv:(cz R).cZ k with
 |none=>rw[hv]at h;exact o.mt k v h
 |some x=>rw[hv]at h;exact o.vt k v (hv.trans h)
end
section
variable{A:aI}(HA:bG A){Λ:bW}{w:World}{br:Nat}{R:MR}
include HA
theorem Ok.eU(ho:Ok A R):Ok A (nX A R)/\(nX A R).out.length<=R.out.length+20000/\(nX A R).sc.i=R.sc.i/\(nX A R).sc.sz=R.sc.sz:=by
 unfold nX;obtain⟨r1,r2,r3,_⟩:=Ep R;split
 .have hi:=ho.i
  have hz:=ho.sz;obtain⟨h1,h2,h3,h4⟩:=ho.Ku.Ai HA (i:=R.sc.i) (by omega);have e:(rZ R).out=R.out:=r3;rw[e]at h2;exact⟨h1,h2,h3.trans r2,h4.trans r1⟩
 .exact⟨ho,Jbv _ _,rfl,rfl⟩
theorem ZX(h:Wk Λ br R w)(ho:Ok A R)(hb:R.out.length<=840000):CY 89 #[Ptt br] w (λv w'=>v=.tuple #[]/\Wk Λ br (nX A R) w'/\Kz w w'):=by
 refine aj Tryz.func89 rfl rfl ?_;refine⟨_,Ww h ho.sn.1,?_⟩;rintro _ w1 ⟨rfl,h1,k1⟩;obtain⟨r1,r2,r3,r4,r5⟩:=Ep R;have hi:=ho.i;have hz:=ho.sz;refine ah (λd=>?_) (λd=>?_)
 .have d1:¬(R.sc.sz=1\/R.sc.seen≠4294967295):=λe=>by simp[e]at d
  have em:nX A R=R:=Jb5 d1;have er:cz R=R:=Jb6 (.inr (by omega));rw[er]at h1;rw[em];exact⟨rfl,h1,k1⟩
 .have d1:R.sc.sz=1\/R.sc.seen≠4294967295:=by
   by_cases e:R.sc.sz=1\/R.sc.seen≠4294967295
   .exact e
   .simp[e]at d
  have em:nX A R=lN A (rZ R) R.sc.i:=Jb6 d1;rw[em];obtain⟨a,h1⟩:=h1;refine⟨_,_,_,h1.ri.mem,rfl,rfl,λw2 m2 g2=>?_⟩;have h2:=h1.cell (s':={ (cz R).sc with role:=1}) m2 g2;have k2:=h1.ri.kz h1.ri.jy g2;have hne:a.vm≠a.mt:=by have:=h2.ri.sep;simp at this;omega
  refine⟨by kernel_rfl,_,_,h2.ri.mem,_,rfl,_,_,h2.ri.mem,_,rfl,_,II h2.ri.mt h2.ri.vm hne,?_⟩;rintro _ w3 ⟨rfl,hm3,g3⟩;have h3:Wa Λ br (rZ R) a w3:=h2.step h2.ri.nM g3 (h2.ri.TH g3 hm3);have k3:=h2.ri.kz h2.ri.nM g3;have ec:=O4 HA ⟨_,h3⟩ ho.Ku (i:=R.sc.i) (by omega) (by show(cz R).out.length<=_;rw[r3];exact hb);have ei:(rZ R).sc.i=R.sc.i:=r2;rw[<-ei]at ec;refine⟨_,_,h3.ri.mem,_,rfl,_,ec,?_⟩;rintro _ w4 ⟨rfl,h4,k4⟩;rw[ei]at h4;exact⟨rfl,h4,((k1.trans k2).trans k3).trans k4⟩
end
def ik(g:Nat->Option MV)(vs:List MV):Nat->Option MV:=vs.foldl nA g
theorem yC{g:Nat->Option MV}{v:MV}(h:g v.slot=none):nA g v=upd g v.slot (some v):=by unfold nA;rw[h]
theorem Aj{g:Nat->Option MV}{v o:MV}(h:g v.slot=some o)(hb:o.b.lt v.b=true):nA g v=upd g v.slot (some v):=by unfold nA;rw[h];exact Jb6 hb
theorem Cq{g:Nat->Option MV}{v o:MV}(h:g v.slot=some o)(hb:o.b.lt v.b=false):nA g v=g:=by unfold nA;rw[h];exact Jb5 (by rw[hb];decide)
def jB(A:aI)(R:MR)(f:Nat×Nat)(b:bH)(vs:List MV):MR:=if R.sc.role≠1\/b≠R.sc.b then R else lN A {R with met:=ik R.met vs} f.2
theorem yD{g:Nat->Option MV}{vs:List MV}{k:Nat}{v:MV}(h:vs[k]?=some v):ik g (vs.take (k+1))=nA (ik g (vs.take k)) v:=by
 unfold ik;rw[Jfm,h,Option.toList_some,Jg4];rfl
theorem Cr{P:Nat->MV->Prop}:∀(vs:List MV) {g:Nat->Option MV},(∀k v,g k=some v->P k v)->(∀v∈vs,P v.slot v)->∀k v,ik g vs k=some v->P k v
 | [],g,hg,_=>hg
 |x::vs,g,hg,hv=>by
  have:∀k v,nA g x k=some v->P k v:=by
   cases h:g x.slot with
   |none=>rw[yC h];exact nI hg (hv x (Jb4 ..))
   |some o =>
    cases hb:o.b.lt x.b with
    |true=>rw[Aj h hb];exact nI hg (hv x (Jb4 ..))
    |false=>rw[Cq h hb];exact hg
  exact Cr vs this λv h=>hv v (Jb2 _ h)
theorem ZY{l:List MV}{ps:List (Value×Value)}(_hl:ps.length=l.length){k:Nat}{x:MV}{p:Value×Value}(hx:l[k]?=some x)(hp:ps[k]?=some p):aG (zipWith (λx p=>kE x p.1 p.2) l ps).flatten (k*20) 20=kE x p.1 p.2:=by
 have h:=jb (f:=λq:MV×(Value×Value)=>kE q.1 q.2.1 q.2.2) (size:=20) (λ_=>rfl) (l.zip ps) k (x,p) (by rw[Jg0];exact⟨hx,hp⟩);rw[<-h];congr 1
 rw[Jfx,map_zip_eq_zipWith];rfl
section
variable{A:aI}{R:MR}
theorem Ok.ik(ho:Ok A R){vs:List MV}(hv:∀v∈vs,A.gc v.c/\v.slot<60):Ok A {R with met:=ik R.met vs}:=⟨ho.sz,ho.i,ho.st,ho.kn,ho.pp,ho.vt,ho.wv,Cr (P:=λk (v:MV)=>A.gc v.c/\k<60/\v.slot=k) vs ho.mt λv h=>⟨(hv v h).1,(hv v h).2,rfl⟩,ho.ac,ho.pr,ho.lg,ho.lc,ho.nx,ho.sn⟩
end
section
variable{A:aI}(HA:bG A){Λ:bW}{w:World}{br:Nat}{R:MR}
include HA
theorem Rc(h:Wk Λ br R w)(ho:Ok A R)(f:Nat×Nat)(hf:f.2<5)(b:bH){vs:List MV}(hv:∀v∈vs,A.gc v.c/\v.slot<60)(hvl:vs.length<=1000000){vv:Value}(hvs:dC w vv vs)(hb:R.out.length<=840000):CY 80 #[Ptt br,.agg #[.int .u8 f.1,.int .u8 f.2],.agg (bC b).toArray,vv] w (λv w'=>v=.tuple #[]/\Wk Λ br (jB A R f b vs) w'/\Kz w w'):=by
 have agX:=hvs;obtain⟨va,vc,rfl⟩:=hvs.sl;refine aj Tryz.func80 rfl rfl ?_;intro w1 b1 m1 g1 l1 w2 b2 m2 g2 l2;have m1:=g2.get m1 nofun;have g:=g1.trans g2;have h20:=h.ay g;have h2:=h20;obtain⟨a,h2⟩:=h2;refine⟨by kernel_rfl,_,_,h2.ri.mem,_,rfl,ah (λc=>?_) (λc=>?_)⟩
 .have c1:R.sc.role=1:=by simp at c;omega
  refine⟨_,_,m2,_,rfl,rfl,_,_,h2.ri.mem,_,rfl,rfl,ah (λd=>?_) (λd=>?_)⟩
  .have d1:b≠R.sc.b:=by rintro rfl;simp at d
   have em:jB A R f b vs=R:=Jb6 (.inr d1);rw[em];exact⟨rfl,h20,g.kz⟩
  .have d1:b=R.sc.b:=by
    have e:b.n=R.sc.b.n/\b.id=R.sc.b.id:=by simp at d;omega
    exact bH.eq e.1 e.2
   have em:jB A R f b vs=lN A {R with met:=ik R.met vs} f.2:=Jb5 (by rintro(e|e);exact e c1;exact e d1);rw[em];obtain⟨ps,hpl,⟨Yq,Yr,hve,hvc,ajM,hvd⟩,hps⟩:=agX.kz g.kz;cases hve
   refine⟨λq s w3=>∃(k:Nat),q=vs.length-k/\k<=vs.length/\s=[(0,Ptt br),(5,Ptt b1),(26,.slice va vs.length vc),(27,.int .i64 vs.length),(28,.int .i64 k)]/\Wk Λ br {R with met:=ik R.met (vs.take k)} w3/\Kz w2 w3,⟨_,_,⟨0,rfl,Jcm _,rfl,h20,Kz.refl _⟩,sb rfl⟩,?_⟩;rintro q s w3 ⟨k,rfl,hk,rfl,⟨a3,h3⟩,k3⟩;refine ah (λe=>?_) (λe=>?_)
   .have e1:k<vs.length:=by simp at e;omega
    rcases hvd with⟨_,h0⟩|⟨B,off,cs,rfl,hB,hcut⟩
    .omega
    obtain⟨x,hx⟩:∃x,vs[k]?=some x:=⟨vs[k],by simp[e1]⟩;obtain⟨⟨rv,dv⟩,hp⟩:∃p,ps[k]?=some p:=⟨ps[k],by simp[hpl,e1]⟩;have hr:=(hps k x _ hx hp).kz k3;obtain⟨ra,rn,rc,da,dn,dc,er,ed⟩:=hr.sl;dsimp only at er ed;subst er ed;have hB3:=k3 _ (by decide) _ _ hB;refine⟨by omega,_,_,hB3,kE x (.slice ra rn rc) (.slice da dn dc),(Fz.elem hcut e1).trans (ZY hpl hx hp),rfl,λw4 b4 m4 g4 l4=>⟨_,_,_,m4,rfl,rfl,λw5 m5 g5=>?_⟩⟩;have vF:GB none w3 w5:=g4.new g5 l4;have h5:=h3.box vF m5 l4;have u5:=h3.rU l4;obtain⟨ff,xQ,e2',e3'⟩:=h5.ri.mt;refine⟨by kernel_rfl,_,_,h5.ri.mem,_,rfl,_,_,m5,_,rfl,ff,xQ,?_⟩;have hv5:∀w',Kz w5 w'->p8 w' (.agg (kE x (.slice ra rn rc) (.slice da dn dc)).toArray) x:=λw' kk=>⟨_,_,rfl,(hr.kz vF.kz).kz kk⟩
    rcases kI e3' x.slot with⟨n1,n2⟩|⟨o,v,n1,n2,rv,dv,rfl,hro⟩
    .rw[n2]
     refine λw6 b6 m6 g6 l6=>⟨⟨xQ.keep (g6.block _ (h5.ri.lt h5.ri.nM) nofun),g6.get m5 nofun,(h5.ay g6).ri.mem,trivial⟩,⟨_,_,_,m6,rfl,rfl,λw7 m7 g7=>?_⟩⟩
     have xP:GB none w5 w7:=g6.new g7 l6;have h7:=h5.ay xP;have vJ:=xP.get m5 nofun;obtain⟨f7,p1,p2,p3⟩:=h7.ri.mt;refine⟨by kernel_rfl,_,_,h7.ri.mem,_,rfl,_,_,vJ,_,rfl,_,_,vJ,kE x (.slice ra rn rc) (.slice da dn dc),rfl,rfl,f7,p1,λw8 m8 g8=>?_⟩;have k8:=h7.ri.kz h7.ri.nM g8;have h8:=h7.step h7.ri.nM g8 (h7.ri.TH g8 (bT.put (λ_ _ h=>h.kz k8) p2 p3 (hv5 w8 (xP.kz.trans k8)) m8));refine⟨by omega,_,_,⟨k+1,rfl,by omega,rfl,?_,k3.trans ((vF.kz.trans xP.kz).trans k8)⟩,(sb rfl),by omega⟩;rw[yD hx,yC n1];exact Wk.drop ⟨_,h8⟩ u5
    .rw[n2]
     obtain⟨uR,Ml,rc',qf,vH,qg,rfl,rfl⟩:=hro.sl;refine λw6 b6 m6 g6 l6=>⟨⟨xQ.keep (g6.block _ (h5.ri.lt h5.ri.nM) nofun),g6.get m5 nofun,(h5.ay g6).ri.mem,trivial⟩,⟨_,_,_,m6,rfl,rfl,λw7 m7 g7=>?_⟩⟩
     have xP:GB none w5 w7:=g6.new g7 l6;have vJ:=xP.get m5 nofun;refine⟨_,_,m7,bC o.b,rfl,rfl,_,_,vJ,bC x.b,rfl,rfl,_,EY w7 o.b x.b,?_⟩;rintro _ w8 ⟨rfl,g8⟩;have Er:=xP.trans g8;have h8:=h5.ay Er;have vJ:=Er.get m5 nofun;refine ah (λj=>?_) (λj=>?_)
     .obtain⟨f7,p1,p2,p3⟩:=h8.ri.mt
      refine⟨by kernel_rfl,_,_,h8.ri.mem,_,rfl,_,_,vJ,_,rfl,_,_,vJ,kE x (.slice ra rn rc) (.slice da dn dc),rfl,rfl,f7,p1,λw9 m9 g9=>?_⟩;have k9:=h8.ri.kz h8.ri.nM g9;have h9:=h8.step h8.ri.nM g9 (h8.ri.TH g9 (bT.put (λ_ _ h=>h.kz k9) p2 p3 (hv5 w9 (Er.kz.trans k9)) m9));refine⟨by omega,_,_,⟨k+1,rfl,by omega,rfl,?_,k3.trans ((vF.kz.trans Er.kz).trans k9)⟩,(sb rfl),by omega⟩;rw[yD hx,Aj n1 j];exact Wk.drop ⟨_,h9⟩ u5
     .refine⟨by omega,_,_,⟨k+1,rfl,by omega,rfl,?_,k3.trans (vF.kz.trans Er.kz)⟩,(sb rfl),by omega⟩
      rw[yD hx,Cq n1 j];exact Wk.drop ⟨_,h8⟩ u5
   .have e1:k=vs.length:=by simp at e;omega
    subst e1;rw[Jfn]at h3;have GJ:=k3 _ (by decide) _ _ m1;refine⟨_,_,GJ,_,rfl,_,O4 HA ⟨_,h3⟩ (ho.ik hv) hf hb,?_⟩;rintro _ w4 ⟨rfl,h4,k4⟩;exact⟨rfl,h4,(g.kz.trans k3).trans k4⟩
 .have c1:R.sc.role≠1:=by simp at c;omega
  have em:jB A R f b vs=R:=Jb6 (.inl c1);rw[em];exact⟨rfl,h20,g.kz⟩
end
theorem TT{α β:Type}{F:α->β->List Value}{size:Nat}(hF:∀x y,(F x y).length=size){l:List α}{ps:List β}{k:Nat}{x:α}{p:β}(hx:l[k]?=some x)(hp:ps[k]?=some p):aG (zipWith F l ps).flatten (k*size) size=F x p:=by
 have h:=jb (f:=λq:α×β=>F q.1 q.2) (size:=size) (λq=>hF q.1 q.2) (l.zip ps) k (x,p) (by rw[Jg0];exact⟨hx,hp⟩);rw[<-h];congr 1
 rw[Jfx,map_zip_eq_zipWith];rfl
def mQ(enc:MM->ByteArray)(R:MR)(k:Nat):MR:=match R.props k with
 |some c=>LY enc R k c
 |none=>R
def r9(enc:MM->ByteArray)(R:MR)(g:Nat):MR:=match(R.st.O.getD g (0,[])).2 with
 | []=>R
 |r::_=>mh enc R {aL 9 with r:=r} (fK R.sc.g R.sc.i g R.sc.sz)
def iL(enc:MM->ByteArray)(R:MR)(n:Nat):MR:=(List.range n).foldl (mQ enc) R
def jo(enc:MM->ByteArray)(R:MR)(n:Nat):MR:=(List.range n).foldl (r9 enc) R
def uf(enc:MM->ByteArray)(R:MR):MR:=jo enc (iL enc R R.sc.next) R.st.O.length
theorem Ak(enc:MM->ByteArray)(R:MR)(n:Nat):iL enc R (n+1)=mQ enc (iL enc R n) n:=by unfold iL;rw[Jc2,Jg4];rfl
theorem Am(enc:MM->ByteArray)(R:MR)(n:Nat):jo enc R (n+1)=r9 enc (jo enc R n) n:=by unfold jo;rw[Jc2,Jg4];rfl
structure kL(R R':MR)(n:Nat):Prop where
 eq:R'={R with out:=R'.out}
 len:R'.out.length<=R.out.length+n
theorem kL.snd{R R':MR}{n:Nat}(h:kL R R' n)(enc:MM->ByteArray)(m:MM){tl:List (Nat×Nat)}(ht:tl.length<=5):kL R (mh enc R' m tl) (n+5):=by
 refine⟨?_,by rw[kJ];have:=h.len;omega⟩;have h1:mh enc R' m tl={R' with out:=(mh enc R' m tl).out}:=rfl;rw[h1];have:=h.eq;generalize (mh enc R' m tl).out=o;rw[this]
theorem kL.weak{R R':MR}{n m:Nat}(h:kL R R' n)(hm:n<=m):kL R R' m:=⟨h.eq,by have:=h.len;omega⟩
theorem kL.f{R R':MR}{n:Nat}(h:kL R R' n):R'.sc=R.sc/\R'.props=R.props/\R'.st=R.st:=by rw[h.eq];exact⟨rfl,rfl,rfl⟩
theorem kL.ok{A:aI}{R R':MR}{n:Nat}(h:kL R R' n)(o:Ok A R):Ok A R':=by
 rw[h.eq];exact⟨o.sz,o.i,o.st,o.kn,o.pp,o.vt,o.wv,o.mt,o.ac,o.pr,o.lg,o.lc,o.nx,o.sn⟩
theorem xR(enc:MM->ByteArray)(R:MR)(hz:R.sc.sz<=5):∀n,kL R (iL enc R n) (5*n)
 |0=>⟨rfl,Jb0 _⟩
 |n+1=>by
  have ih:=xR enc R hz n;rw[Ak];unfold mQ;split
  .have:=jm (iL enc R n).sc.g (iL enc R n).sc.i (iL enc R n).sc.g (iL enc R n).sc.sz
   rw[ih.f.1]at this;exact ih.snd _ _ (by rw[ih.f.1];omega)
  .exact ih.weak (by omega)
theorem xS(enc:MM->ByteArray)(R:MR)(hz:R.sc.sz<=5):∀n,kL R (jo enc R n) (5*n)
 |0=>⟨rfl,Jb0 _⟩
 |n+1=>by
  have ih:=xS enc R hz n;rw[Am];unfold r9;split
  .exact ih.weak (by omega)
  .have:=jm (jo enc R n).sc.g (jo enc R n).sc.i n (jo enc R n).sc.sz
   rw[ih.f.1]at this;exact ih.snd _ _ (by rw[ih.f.1];omega)
theorem WH{w:World}{vO:Value}{O:List (Int×List Rg)}(h:∃qs:List Value,qs.length=O.length/\Fz w 62 2 vO O.length (zipWith (λ(o:Int×List Rg) q=>[Value.int .u32 o.1,q]) O qs).flatten/\∀(i:Nat) (o:Int×List Rg) (q:Value),O[i]?=some o->qs[i]?=some q->uN w q o.2){p:Nat}(hp:p<O.length):∃b off cap cs n q,vO=.slice (some ⟨b,off,none⟩) O.length cap/\O.length<=cap/\w.heap[b]?=some (.cells cs 62)/\aG cs.toList (off+p*2) 2=[.int .u32 n,q]/\uN w q (O.getD p (0,[])).2:=by
 obtain⟨qs,h1,⟨a,c,rfl,h3,h4,h5⟩,h6⟩:=h;rcases h5 with⟨_,h0⟩|⟨b,off,cs,rfl,hb,hcut⟩
 .omega
 obtain⟨o,ho⟩:∃o,O[p]?=some o:=⟨O[p],by simp[hp]⟩;obtain⟨q,hq⟩:∃q,qs[p]?=some q:=⟨qs[p],by simp[h1,hp]⟩;refine⟨b,off,c,cs,o.1,q,rfl,h3,hb,(Fz.elem hcut hp).trans (TT (F:=λ(o:Int×List Rg) q=>[Value.int .u32 o.1,q]) (λ_ _=>rfl) ho hq),?_⟩;rw[Jdx,ho];exact h6 p o q ho hq
section
variable{A:aI}(HA:bG A){Λ:bW}{w:World}{br:Nat}{R:MR}
include HA
theorem JG(h:Wk Λ br R w)(ho:Ok A R)(hb:R.out.length<=880000):CY 92 #[Ptt br] w (λv w'=>v=.tuple #[]/\Wk Λ br (uf A.enc R) w'/\Kz w w'):=by
 have h0:=h;obtain⟨a,h⟩:=h;have hz:=ho.sz;have hnx:=ho.nx;have hol:=HA.ol _ ho.st;refine aj Tryz.func92 rfl rfl ?_;refine⟨_,_,h.ri.mem,_,rfl,?_⟩;refine⟨λn s w'=>∃(k:Nat),n=R.sc.next-k/\k<=R.sc.next/\s=[(0,Ptt br),(10,.int .u32 R.sc.next),(11,.int .u32 k)]/\Wk Λ br (iL A.enc R k) w'/\Kz w w',⟨_,_,⟨0,rfl,Jcm _,rfl,h0,Kz.refl _⟩,sb rfl⟩,?_⟩;rintro n s w1 ⟨k,rfl,hk,rfl,h10,k1⟩;have h1:=h10;obtain⟨a1,h1⟩:=h1;have O1:=xR A.enc R hz k;obtain⟨f1,f2,f3⟩:=O1.f;have lo1:=O1.len;refine ah (λc=>?_) (λc=>?_)
 .have c1:k<R.sc.next:=by simp at c;omega
  obtain⟨f,e1,e2,e3⟩:=h1.ri.pp;refine⟨_,_,h1.ri.mem,_,rfl,f,e1,λw2 b2 m2 g2 l2=>?_⟩;rcases kI e3 k with⟨n1,n2⟩|⟨y,v,n1,n2,rv,dv,rfl,hr⟩
  .rw[n2]
   refine⟨_,_,_,m2,rfl,rfl,λw3 m3 g3=>?_⟩;have g13:GB none w1 w3:=g2.new g3 l2;refine⟨by omega,_,_,⟨k+1,rfl,by omega,rfl,?_,k1.trans g13.kz⟩,(sb rfl),by omega⟩;rw[Ak];unfold mQ;rw[n1];exact h10.ay g13
  .rw[n2]
   obtain⟨ra,rn,rc,da,dn,dc,rfl,rfl⟩:=hr.sl;refine⟨_,_,_,m2,rfl,rfl,λw3 m3 g3=>?_⟩;have g13:GB none w1 w3:=g2.new g3 l2;refine⟨_,_,m3,dF y (.slice ra rn rc) (.slice da dn dc),rfl,rfl,_,Yj HA.nW (h10.ay g13) (by rw[f1];exact hz) (c:=y) ⟨_,_,rfl,hr.kz g13.kz⟩ (by omega),?_⟩;rintro _ w4 ⟨rfl,h4,k4⟩;refine⟨by omega,_,_,⟨k+1,rfl,by omega,rfl,?_,(k1.trans g13.kz).trans k4⟩,(sb rfl),by omega⟩;rw[Ak];unfold mQ;rw[n1];exact h4
 have c1:k=R.sc.next:=by simp at c;omega
 subst c1;have o1:Ok A (iL A.enc R R.sc.next):=O1.ok ho;have eR:uf A.enc R=jo A.enc (iL A.enc R R.sc.next) (iL A.enc R R.sc.next).st.O.length:=by unfold uf;rw[f3]
 have ajN:(iL A.enc R R.sc.next).st.O.length<=200:=by rw[f3];exact hol
 have hz1:(iL A.enc R R.sc.next).sc.sz<=5:=by rw[f1];exact hz
 rw[eR];generalize iL A.enc R R.sc.next=R1 at *;obtain⟨vm,wm,kn,mt,pp,ac,lg,ob,sT,sM,sD,sO,sI⟩:=a1;have hO:=h1.ri.st.O;obtain⟨oa,oc,rfl⟩:∃oa oc,sO=.slice oa R1.st.O.length oc:=by obtain⟨_,_,⟨a,c,h,_⟩,_⟩:=hO;exact⟨a,c,h⟩
 refine⟨_,_,h1.ri.mem,_,rfl,?_⟩;refine⟨λn s w'=>∃(k:Nat),n=R1.st.O.length-k/\k<=R1.st.O.length/\s=[(0,Ptt br),(33,.slice oa R1.st.O.length oc),(34,.int .i64 R1.st.O.length),(35,.int .i64 k)]/\Wk Λ br (jo A.enc R1 k) w'/\Kz w1 w',⟨_,_,⟨0,rfl,Jcm _,rfl,h10,Kz.refl _⟩,sb rfl⟩,?_⟩;rintro n s w2 ⟨k,rfl,hk,rfl,h2,k2⟩;have O2:=xS A.enc R1 hz1 k;obtain⟨q1,q2,q3⟩:=O2.f;have lo2:=O2.len;refine ah (λd=>?_) (λd=>?_)
 .have d1:k<R1.st.O.length:=by simp at d;omega
  obtain⟨B,off,cap,cs,nn,q,ee,hcap,hB,hcut,hQ⟩:=WH hO d1;cases ee
  have Yt:=hQ.kz k2;obtain⟨qa,qn,qc,rfl⟩:∃qa qn qc,q=.slice qa qn qc:=by obtain⟨_,_,⟨a,c,h,_⟩,_⟩:=hQ;exact⟨a,_,c,h⟩
  refine⟨by omega,_,_,k2 _ (by decide) _ _ hB,[.int .u32 nn,.slice qa qn qc],hcut,rfl,λw3 b3 m3 g3 l3=>⟨_,_,_,m3,rfl,rfl,λw4 m4 g4=>?_⟩⟩;have g24:GB none w2 w4:=g3.new g4 l3;have h4:=h2.ay g24;refine⟨_,_,m4,_,rfl,?_⟩;cases hl:(R1.st.O.getD k (0,[])).2 with
  |nil =>
   rw[hl]at Yt;obtain⟨_,_,⟨_,_,he,_⟩,_⟩:=Yt;cases he
   refine⟨by omega,_,_,⟨k+1,rfl,by omega,rfl,?_,k2.trans g24.kz⟩,(sb rfl),by omega⟩;rw[Am];unfold r9;rw[q3,hl];exact h4
  |cons r rs =>
   rw[hl]at Yt;obtain⟨b,o,vK,cq,rv,dv,he,hqc,hbq,hcq,hr⟩:=Yt.hd;cases he
   have e2:jo A.enc R1 (k+1)=mh A.enc (jo A.enc R1 k) {aL 9 with r:=r} (fK (jo A.enc R1 k).sc.g (jo A.enc R1 k).sc.i k (jo A.enc R1 k).sc.sz):=by
    rw[Am];unfold r9;rw[q3,hl]
   refine ah (λe=>?_) (λe=>?_)
   .have ace:=g24.get hbq nofun
    refine⟨by kernel_rfl,_,_,m4,_,rfl,by omega,_,_,ace,fB r rv dv,hcq,rfl,.inl ⟨by omega,_,Cg h4 k (by rw[q1];exact hz1),?_⟩⟩;rintro v w5 ⟨hv,g5⟩;have hol:=jm (jo A.enc R1 k).sc.g (jo A.enc R1 k).sc.i k (jo A.enc R1 k).sc.sz;rw[q1]at hol;refine⟨⟨g5.get ace nofun,g5.get m4 nofun,trivial⟩,_,oG HA.nW (h4.ay g5) (m:={aL 9 with r:=r}) ⟨_,_,_,_,_,rfl,aS.zero _,dC.zero _,(hr.kz g24.kz).kz g5.kz⟩ hv (by rw[q1];omega),?_⟩;rintro _ w6 ⟨rfl,h6,k6⟩;refine⟨by omega,_,_,⟨k+1,rfl,by omega,rfl,?_,((k2.trans g24.kz).trans g5.kz).trans k6⟩,(sb rfl),by omega⟩;rw[e2];exact h6
   .exfalso;simp at e
 .have d1:k=R1.st.O.length:=by simp at d;omega
  subst d1;exact⟨rfl,h2,k1.trans k2⟩
end
def bK(A:aI)(R:MR):MR:=if R.sc.role=0 then nX A R else R
def gN(A:aI)(R:MR):MR:=mh A.enc R {aL 3 with b:=R.sc.b} (fK R.sc.g R.sc.i R.sc.g R.sc.sz)
def sj(A:aI)(R:MR):MR:=if R.sc.role=0 then R else if R.sc.role=2 then uf A.enc (gN A R)else gN A R
def mR(A:aI)(R:MR):MR:=sj A (bK A R)
theorem Gq{n:Nat}(h:((n:Int)==2)=true):n=2:=by simp at h;omega
theorem OB{n:Nat}(h:((n:Int)==2)=false):¬n=2:=by simp at h;omega
section
variable{A:aI}(HA:bG A){Λ:bW}{w:World}{br:Nat}{R:MR}
include HA
theorem Ok.bK(ho:Ok A R):Ok A (bK A R)/\(bK A R).out.length<=R.out.length+20000/\(bK A R).sc.i=R.sc.i/\(bK A R).sc.sz=R.sc.sz:=by
 unfold Go.Proofs.YtignemioillaiabGreat.bK;split
 .exact ho.eU HA
 .exact⟨ho,Jbv _ _,rfl,rfl⟩
theorem Ok.sj(ho:Ok A R):Ok A (sj A R):=by
 unfold Go.Proofs.YtignemioillaiabGreat.sj;split
 .exact ho
 .have o2:Ok A (gN A R):=ho.snd _ _ _
  split
  .have O1:=xR A.enc (gN A R) ho.sz (gN A R).sc.next
   have o3:=O1.ok o2;exact(xS A.enc _ o3.sz _).ok o3
  .exact o2
theorem Ok.tick(ho:Ok A R):Ok A (mR A R):=(ho.bK HA).1.sj HA
theorem ZZ(h:Wk Λ br R w)(ho:Ok A R)(hb:R.out.length<=840000):CY 57 #[Ptt br] w (λv w'=>v=.tuple #[]/\Wk Λ br (mR A R) w'/\Kz w w'):=by
 have h0:=h;obtain⟨a,h⟩:=h;obtain⟨o1,l1,_,_⟩:=ho.bK HA;refine aj Tryz.func57 rfl rfl ?_;refine⟨_,_,h.ri.mem,_,rfl,ah (λc=>?_) (λc=>?_)⟩
 .have c1:R.sc.role=0:=by simp at c;omega
  have e1:bK A R=nX A R:=Jb6 c1;refine⟨_,ZX HA h0 ho hb,?_⟩;rintro _ w1 ⟨rfl,h1,k1⟩;rw[<-e1]at h1;obtain⟨a1,h1⟩:=h1;refine⟨_,_,h1.ri.mem,_,rfl,ah (λd=>?_) (λd=>?_)⟩
  .have d1:(bK A R).sc.role=0:=by simp at d;omega
   have em:mR A R=bK A R:=Jb6 d1;rw[em];exact⟨rfl,⟨_,h1⟩,k1⟩
  have d1:¬(bK A R).sc.role=0:=by simp at d;omega
  refine⟨by kernel_rfl,_,_,h1.ri.mem,_,rfl,rfl,_,Ad ⟨_,h1⟩ o1.sz,?_⟩;rintro v w2 ⟨hv,g2⟩;have hol:=jm (bK A R).sc.g (bK A R).sc.i (bK A R).sc.g (bK A R).sc.sz;have hz:=o1.sz;refine⟨⟨(h1.ay g2).ri.mem,trivial⟩,_,oG HA.nW (Wk.ay ⟨_,h1⟩ g2) (m:={aL 3 with b:=(bK A R).sc.b}) ⟨_,_,_,_,_,rfl,aS.zero _,dC.zero _,aS.zero _⟩ hv (by omega),?_⟩;rintro _ w3 ⟨rfl,h3,k3⟩;have kk:=(k1.trans g2.kz).trans k3;have TU:Wk Λ br (gN A (bK A R)) w3:=h3;obtain⟨a3,h3⟩:=h3;refine⟨_,_,h3.ri.mem,_,rfl,ah (λe=>?_) (λe=>?_)⟩
  .have xQ:(bK A R).sc.role=2:=Gq e
   have em:mR A R=uf A.enc (gN A (bK A R)):=(Jb5 d1).trans (Jb6 xQ);rw[em];refine⟨_,JG HA TU (o1.snd _ _ _) (by unfold gN;rw[kJ];omega),?_⟩;rintro _ w4 ⟨rfl,h4,k4⟩;exact⟨rfl,h4,kk.trans k4⟩
  .have xQ:¬(bK A R).sc.role=2:=OB e
   have em:mR A R=gN A (bK A R):=(Jb5 d1).trans (Jb5 xQ);rw[em];exact⟨rfl,TU,kk⟩
 .have c1:¬R.sc.role=0:=by simp at c;omega
  have e1:bK A R=R:=Jb5 c1;have h1:=h0;rw[<-e1]at h1;have k1:=Kz.refl w;obtain⟨a1,h1⟩:=h1;refine⟨_,_,h1.ri.mem,_,rfl,ah (λd=>?_) (λd=>?_)⟩
  .have d1:(bK A R).sc.role=0:=by simp at d;omega
   have em:mR A R=bK A R:=Jb6 d1;rw[em];exact⟨rfl,⟨_,h1⟩,k1⟩
  have d1:¬(bK A R).sc.role=0:=by simp at d;omega
  refine⟨by kernel_rfl,_,_,h1.ri.mem,_,rfl,rfl,_,Ad ⟨_,h1⟩ o1.sz,?_⟩;rintro v w2 ⟨hv,g2⟩;have hol:=jm (bK A R).sc.g (bK A R).sc.i (bK A R).sc.g (bK A R).sc.sz;have hz:=o1.sz;refine⟨⟨(h1.ay g2).ri.mem,trivial⟩,_,oG HA.nW (Wk.ay ⟨_,h1⟩ g2) (m:={aL 3 with b:=(bK A R).sc.b}) ⟨_,_,_,_,_,rfl,aS.zero _,dC.zero _,aS.zero _⟩ hv (by omega),?_⟩;rintro _ w3 ⟨rfl,h3,k3⟩;have kk:=(k1.trans g2.kz).trans k3;have TU:Wk Λ br (gN A (bK A R)) w3:=h3;obtain⟨a3,h3⟩:=h3;refine⟨_,_,h3.ri.mem,_,rfl,ah (λe=>?_) (λe=>?_)⟩
  .have xQ:(bK A R).sc.role=2:=Gq e
   have em:mR A R=uf A.enc (gN A (bK A R)):=(Jb5 d1).trans (Jb6 xQ);rw[em];refine⟨_,JG HA TU (o1.snd _ _ _) (by unfold gN;rw[kJ];omega),?_⟩;rintro _ w4 ⟨rfl,h4,k4⟩;exact⟨rfl,h4,kk.trans k4⟩
  .have xQ:¬(bK A R).sc.role=2:=OB e
   have em:mR A R=gN A (bK A R):=(Jb5 d1).trans (Jb5 xQ);rw[em];exact⟨rfl,TU,kk⟩
end
def qj(R:MR):MR:={R with sc:={R.sc with wb:=R.sc.b},fJ:=orM R.cZ R.fJ}
def mStart(A:aI)(R:MR):MR:={gF R with known:=λ_=>none,cZ:=orM R.fJ λ_=>none,sc:={ (gF R).sc with b:=R.sc.wb,seen:=R.sc.wb.n},log:=[],st:=A.bg R.sc.g R.sc.gs}
section
variable{A:aI}{Λ:bW}{w:World}{br:Nat}{R:MR}
theorem TV{P:Nat->MV->Prop}{f g:Nat->Option MV}(hf:∀k v,f k=some v->P k v)(hg:∀k v,g k=some v->P k v):∀k v,orM f g k=some v->P k v:=by
 intro k v h;unfold orM at h;cases hv:f k with
 |none=>rw[hv]at h;exact hg k v h
 |some x=>rw[hv]at h;exact hf k v (hv.trans h)
theorem Ok.write(ho:Ok A R):Ok A (qj R):=⟨ho.sz,ho.i,ho.st,ho.kn,ho.pp,ho.vt,TV ho.vt ho.wv,ho.mt,ho.ac,ho.pr,ho.lg,ho.lc,ho.nx,ho.sn.1,ho.sn.2.1,ho.sn.2.1⟩
end
section
variable{A:aI}(HA:bG A){Λ:bW}{w:World}{br:Nat}{R:MR}
include HA
theorem Ok.start(ho:Ok A R):Ok A (mStart A R):=⟨ho.sz,ho.i,HA.Ag _ _ ho.i.2.2.2 ho.i.2.1 ho.i.2.2.1,λ_ _ h=>(by cases h),λ_ _ h=>(by cases h),TV ho.wv (λ_ _ h=>(by cases h)),ho.wv,λ_ _ h=>(by cases h),λ_ _ h=>(by cases h),Jg5 _,Jcm _,λ_ h=>(by cases h),ho.nx,ho.sn.2.2,ho.sn.2.2,ho.sn.2.2⟩
theorem Mo(h:Wk Λ br R w)(hg:R.sc.g<R.sc.gs)(hn:R.sc.gs<=4):CY 88 #[Ptt br] w (λv w'=>v=.tuple #[]/\Wk Λ br (mStart A R) w'/\Kz w w'):=by
 refine aj Tryz.func88 rfl rfl ?_;refine⟨_,EX br R Λ w h,?_⟩;rintro _ w1 ⟨rfl,⟨a,h1⟩,k1⟩;have eS:mStart A R={gF R with known:=λ_=>none,cZ:=orM (gF R).fJ λ_=>none,sc:={ (gF R).sc with b:=(gF R).sc.wb,seen:=(gF R).sc.wb.n},log:=[],st:=A.bg (gF R).sc.g (gF R).sc.gs}:=rfl;have hg:(gF R).sc.g<(gF R).sc.gs:=hg;have hn:(gF R).sc.gs<=4:=hn;rw[eS];generalize gF R=R1 at *;obtain⟨vm,wm,kn,mt,pp,ac,lg,ob,sT,sM,sD,sO,sI⟩:=a;obtain⟨f,e1,_⟩:=h1.ri.kn;refine⟨_,_,h1.ri.mem,_,rfl,f,e1,λw2 m2 g2=>?_⟩;have h2:Wa Λ br {R1 with known:=λ_=>none} ⟨vm,wm,kn,mt,pp,ac,lg,ob,sT,sM,sD,sO,sI⟩ w2:=h1.step h1.ri.wR g2 (h1.ri.FD g2 (bT.none m2));have k2:=k1.trans (h1.ri.kz h1.ri.wR g2);obtain⟨f,e1,_⟩:=h2.ri.vm;refine⟨_,_,h2.ri.mem,_,rfl,f,e1,λw3 m3 g3=>?_⟩;have h3:Wa Λ br {R1 with known:=λ_=>none,cZ:=λ_=>none} ⟨vm,wm,kn,mt,pp,ac,lg,ob,sT,sM,sD,sO,sI⟩ w3:=h2.step h2.ri.wQ g3 (h2.ri.vm' g3 (bT.none m3));have k3:=k2.trans (h2.ri.kz h2.ri.wQ g3);have hne:wm≠vm:=by have:=h3.ri.sep;simp at this;omega
 refine⟨by kernel_rfl,_,_,h3.ri.mem,_,rfl,_,_,h3.ri.mem,_,rfl,_,II h3.ri.vm h3.ri.wm hne,?_⟩;rintro _ w4 ⟨rfl,hm4,g4⟩;have h4:Wa Λ br {R1 with known:=λ_=>none,cZ:=orM R1.fJ λ_=>none} ⟨vm,wm,kn,mt,pp,ac,lg,ob,sT,sM,sD,sO,sI⟩ w4:=h3.step h3.ri.wQ g4 (h3.ri.vm' g4 hm4);have k4:=k3.trans (h3.ri.kz h3.ri.wQ g4);refine⟨_,_,h4.ri.mem,_,rfl,rfl,_,_,_,h4.ri.mem,rfl,rfl,λw5 m5 g5=>?_⟩;have h5:Wa Λ br {R1 with known:=λ_=>none,cZ:=orM R1.fJ λ_=>none,sc:={R1.sc with b:=R1.sc.wb} } ⟨vm,wm,kn,mt,pp,ac,lg,ob,sT,sM,sD,sO,sI⟩ w5:=h4.cell (s':={R1.sc with b:=R1.sc.wb}) m5 g5;have k5:=k4.trans (h4.ri.kz h4.ri.jy g5);refine⟨_,_,h5.ri.mem,_,rfl,_,_,_,h5.ri.mem,rfl,rfl,λw6 m6 g6=>?_⟩;have h6:Wa Λ br {R1 with known:=λ_=>none,cZ:=orM R1.fJ λ_=>none,sc:={R1.sc with b:=R1.sc.wb,seen:=R1.sc.wb.n} } ⟨vm,wm,kn,mt,pp,ac,lg,ob,sT,sM,sD,sO,sI⟩ w6:=h5.cell (s':={R1.sc with b:=R1.sc.wb,seen:=R1.sc.wb.n}) m6 g6;have k6:=k5.trans (h5.ri.kz h5.ri.jy g6);refine⟨_,_,_,h6.ri.mem,rfl,rfl,λw7 m7 g7=>?_⟩;obtain⟨h7,k7⟩:=h6.lg' (lv:=.slice none 0 0) (ls:=[]) (GB.refl _ _) ⟨[],rfl,eu _ _ _,λi c p h=>(by simp at h)⟩ nofun m7 g7;have k7:=k6.trans k7;have h7:Wa Λ br {R1 with known:=λ_=>none,cZ:=orM R1.fJ λ_=>none,sc:={R1.sc with b:=R1.sc.wb,seen:=R1.sc.wb.n},log:=[]} ⟨vm,wm,kn,mt,pp,ac,Ptz,ob,sT,sM,sD,sO,sI⟩ w7:=h7;refine⟨by kernel_rfl,_,_,h7.ri.mem,_,rfl,.inl ⟨(λ(n:Nat) (h:n<=4)=>(by omega : -9223372036854775808<=(n:Int)/\(n:Int)<=9223372036854775807)) R1.sc.g (by omega),_,_,h7.ri.mem,_,rfl,_,HA.beg w7 R1.sc.g R1.sc.gs hg hn,?_⟩⟩;rintro _ w8 ⟨T,M,D,O,I,e,rfl,hs,g8⟩;obtain⟨ta,tn,tc,ma,mn,mc,da,dn,dc,oa,on,oc,ia,il,ic,rfl,rfl,rfl,rfl,rfl⟩:=(hs _ λ_ _ _=>rfl).sl;have h8:=h7.ay g8;refine⟨_,_,_,h8.ri.mem,rfl,rfl,λw9 m9 g9=>?_⟩;have hbr:br<w7.heap.size:=ae h7.ri.mem;obtain⟨h9,k9⟩:=h8.st' (hs w9 λx hx hx3=>g9.block x hx3 λe=>by cases e;omega) m9 g9;exact⟨rfl,⟨_,h9⟩,(k7.trans g8.kz).trans k9⟩
end
end
