/- Lemmas. -/
import Derived.Test.YtignemioillaiaaGreatG25
namespace Go.Proofs.YtignemioillaiaaGreat
set_option maxHeartbeats 8000000
set_option linter.unusedSectionVars false
set_option maxRecDepth 100000
open List
section
open Go Go.Conc
theorem GB.news{w0 w w':World}{d x:Nat}(h:GB (some d) w0 w)(k:GB (some x) w w')(hx:w0.heap.size<=x):GB (some d) w0 w' :=
 ⟨k.os.trans h.os,k.out.trans h.out,Nat.le_trans h.size k.size,λy hy hd=>(k.block y (Nat.lt_of_lt_of_le hy h.size) (λe=>by cases e;omega)).trans (h.block y hy hd)⟩
def orM(gs gd:Nat->Option MV):Nat->Option MV:=λk=>(gs k).or (gd k)
theorem GL{w:World}{d s:Nat}{gd gs:Nat->Option MV}(hd:bT pF w d gd)(hs:bT pF w s gs)(hne:s≠d):ag Tryz.prog 112 #[.map (some d),.map (some s)] w (λv w'=>v=.tuple #[]/\bT pF w' d (orM gs gd)/\GB (some d) w w'):=by
 refine ah Tryz.func112 rfl rfl ?_;obtain⟨l,hl,hw⟩:=hs.walk;refine⟨l,hl,λw1 it i1 g1 l1=>?_⟩;obtain⟨hm1,hm2⟩:=hw i1.nodup;have hdo:=hd.obj;refine⟨λn q w'=>∃(todo:List (Int×Value)) (cur:Option (Int×Value)) (g:Nat->Option MV),n=todo.length/\q=[(0,.map (some d)),(7,Ptt it)]/\nE w' it s l todo cur/\bT pF w' d g/\GB (some d) w w'/\(∀k,g k=orM gs gd k\/(g k=gd k/\∃v,((k:Int),v)∈todo))/\∀p∈todo,p∈l,⟨_,_,⟨l,none,gd,rfl,rfl,i1,hd.keep (λ_ _ h=>h.kz g1.kz) (g1.block _ hd.lt nofun),g1.weak,?_,λ_ h=>h⟩,rfl,rfl,trivial⟩,?_⟩
 ·intro k
  cases hk:gs k with
  |none=>exact .inl (by unfold orM;rw[hk];rfl)
  |some x=>exact .inr ⟨rfl,by obtain⟨v,h,_⟩:=hm2 k x hk;exact⟨v,h⟩⟩
 rintro n q w2 ⟨todo,cur,g,rfl,rfl,i2,hg,gg,hinv,hsub⟩;refine⟨s,l,todo,cur,i2,λe0=>?_,?_⟩
 ·subst e0
  have:g=orM gs gd:=funext λk=>(hinv k).elim id λh=>by obtain⟨_,_,h⟩:=h;cases h
  rw[<-this];exact⟨rfl,hg,gg⟩
 ·rintro i ⟨pk,pv⟩ w3 hi i3 g3
  obtain⟨k,x,rfl,mQ,rv,dv,rfl,hr⟩:=hm1 _ (hsub _ (List.mem_of_getElem? hi));obtain⟨ra,rn,rc,da,dn,dc,rfl,rfl⟩:=hr.sl;have hil:i<todo.length:=(List.getElem?_eq_some_iff.1 hi).1;have Pw:it<w3.heap.size:=by obtain⟨_,_,_,_,h⟩:=i3.it;exact ae h
  have slt:s<w3.heap.size:=Nat.lt_of_lt_of_le (Nat.lt_of_lt_of_le hs.lt gg.size) g3.size;have Wv:it≠d:=λe=>by have:=hd.lt;omega
  refine⟨s,l,_,_,i3,λw4 b4 m4 g4 l4=>⟨_,_,_,m4,rfl,rfl,λw5 m5 g5=>?_⟩⟩;have uK:GB none w3 w5:=g4.new g5 l4;have k23:Kz w2 w3:=g3.De λc t _ hh=>by obtain⟨_,_,_,_,h⟩:=i2.it;rw[h]at hh;cases hh
  have hg3:bT pF w3 d g:=hg.keep (λ_ _ h=>h.kz k23) (g3.block _ hg.lt λe=>Wv (Option.some.inj e).symm);have hg5:bT pF w5 d g:=hg3.keep (λ_ _ h=>h.kz uK.kz) (uK.block _ hg3.lt nofun);have gg5:GB (some d) w w5:=(gg.news g3 l1).trans uK.weak;have Ww:=hg5.obj;obtain⟨f,e1,e2,e3⟩:=hg5;refine⟨_,_,m5,jU x (.slice ra rn rc) (.slice da dn dc),rfl,rfl,f,e1,λw6 m6 g6=>?_⟩;have k56:Kz w5 w6:=g6.De λc t _ hh=>by obtain⟨_,_,h⟩:=Ww;rw[h]at hh;cases hh
  have Po:Kz w w5:=gg5.De λc t _ hh=>by obtain⟨_,_,h⟩:=hdo;rw[h]at hh;cases hh
  have hv6:pF w6 (.agg (jU x (.slice ra rn rc) (.slice da dn dc)).toArray) x:=⟨_,_,rfl,(hr.kz Po).kz k56⟩;refine⟨_,_,⟨todo.eraseIdx i,_,upd g k (some x),rfl,rfl,i3.keep ((g6.block _ (Nat.lt_of_lt_of_le Pw uK.size) λe=>Wv (Option.some.inj e)).trans (uK.block _ Pw nofun)) ((g6.block _ (Nat.lt_of_lt_of_le slt uK.size) λe=>hne (Option.some.inj e)).trans (uK.block _ slt nofun)),bT.put (λ_ _ h=>h.kz k56) e2 e3 hv6 m6,gg5.trans g6,?_,λp hp=>hsub p (mem_of_mem_eraseIdx hp)⟩,⟨rfl,rfl,trivial⟩,?_⟩
  ·intro k'
   unfold upd;by_cases e:k'=k
   ·subst e
    rw[if_pos rfl];exact .inl (by unfold orM;rw[mQ];rfl)
   ·rw[if_neg e]
    rcases hinv k' with h|⟨h,v,hv⟩
    ·exact .inl h
    ·exact .inr ⟨h,v,mem_erase hv hi λe'=>e (by have:=congrArg Prod.fst e';dsimp only at this;omega)⟩
  ·rw[length_eraseIdx,if_pos hil];omega
def lu(A:aO)(R:MR)(i:Nat):MR:=if 2*pc (je R.sc.prom i) > R.sc.sz then oF A { R with sc:={ R.sc with prom:=je R.sc.prom i } }else{ R with sc:={ R.sc with prom:=je R.sc.prom i } }
section
variable{A:aO}(HA:bH A){Λ:bU}{w:World}{br:Nat}{R:MR}
omit HA in
theorem Ok.prom(ho:Ok A R){i:Nat}(hi:i<5):Ok A { R with sc:={ R.sc with prom:=je R.sc.prom i } }:=⟨ho.sz,ho.i,ho.st,ho.kn,ho.pp,ho.vt,ho.wv,ho.mt,ho.ac,vZ ho.pr hi,ho.lg,ho.lc,ho.nx,ho.sn⟩
include HA
theorem Ok.zu(ho:Ok A R){i:Nat}(hi:i<5):Ok A (lu A R i)/\(lu A R i).out.length<=R.out.length+20000/\(lu A R i).sc.i=R.sc.i/\(lu A R i).sc.sz=R.sc.sz:=by
 unfold lu;split
 ·exact(ho.prom hi).lead HA
 ·exact⟨ho.prom hi,Nat.le_add_right _ _,rfl,rfl⟩
theorem Nu(h:Wk Λ br R w)(ho:Ok A R){i:Nat}(hi:i<5)(hb:R.out.length<=840000):ag Tryz.prog 157 #[Ptt br,.int .u8 i] w (λv w'=>v=.tuple #[]/\Wk Λ br (lu A R i) w'/\Kz w w'):=by
 obtain⟨a,h⟩:=h;refine ah Tryz.func157 rfl rfl ?_;refine⟨_,_,h.ri.mem,_,rfl,_,Np w _ i ho.pr hi,?_⟩;rintro _ w1 ⟨rfl,rfl⟩;refine⟨_,_,_,h.ri.mem,rfl,rfl,λw2 m2 g2=>?_⟩;have h2:=h.cell (s':={ R.sc with prom:=je R.sc.prom i }) m2 g2;have k2:=h.ri.kz h.ri.jo g2;refine⟨by kernel_rfl,_,_,h2.ri.mem,_,rfl,_,_,h2.ri.mem,_,rfl,_,Nn w2 _ _ (vZ ho.pr hi),?_⟩;rintro _ w3 ⟨rfl,rfl⟩;refine aj (λd=>?_) (λd=>?_)
 ·have d1:2*pc (je R.sc.prom i) > R.sc.sz:=Ptq d
  have em:lu A R i=oF A { R with sc:={ R.sc with prom:=je R.sc.prom i } }:=if_pos d1;rw[em];refine⟨_,Ye HA ⟨_,h2⟩ (ho.prom hi) hb,?_⟩;rintro _ w4 ⟨rfl,h4,k4⟩;exact⟨rfl,h4,k2.trans k4⟩
 ·have d1:¬2*pc (je R.sc.prom i) > R.sc.sz:=Ptx d
  have em:lu A R i={ R with sc:={ R.sc with prom:=je R.sc.prom i } }:=if_neg d1;rw[em];exact⟨rfl,⟨_,h2⟩,k2⟩
end
def rz(R:MR):MR:={ cz R with sc:={ (cz R).sc with role:=1 },met:=orM (cz R).cK (cz R).met }
def nJ(A:aO)(R:MR):MR:=if R.sc.sz=1\/R.sc.seen≠4294967295 then lu A (rz R) R.sc.i else R
def mR(g:Nat->Option MV)(v:MV):Nat->Option MV:=match g v.slot with
 |none=>upd g v.slot (some v)
 |some o=>if o.b.lt v.b=true then upd g v.slot (some v)else g
section
variable{A:aO}{R:MR}
theorem Dl(R:MR):(cz R).sc.sz=R.sc.sz/\(cz R).sc.i=R.sc.i/\(cz R).out=R.out/\(cz R).met=R.met/\(cz R).cK=R.cK:=by
 unfold cz;split
 ·exact⟨rfl,rfl,rfl,rfl,rfl⟩
 ·exact⟨rfl,rfl,rfl,rfl,rfl⟩
theorem Ok.raise(ho:Ok A R):Ok A (cz R):=by
 have:=ho.sn;unfold cz;split
 ·exact ho
 ·rename_i h
  exact⟨ho.sz,ho.i,ho.st,ho.kn,ho.pp,ho.vt,ho.wv,ho.mt,ho.ac,ho.pr,ho.lg,ho.lc,ho.nx,by show R.sc.seen+1<=_;omega,by show R.sc.seen+1<=_;omega,ho.sn.2.2⟩
theorem Ok.Ji(ho:Ok A R):Ok A (rz R):=by
 have o:=ho.raise;refine⟨o.sz,o.i,o.st,o.kn,o.pp,o.vt,o.wv,λk v h=>?_,o.ac,o.pr,o.lg,o.lc,o.nx,o.sn⟩;have h:orM (cz R).cK (cz R).met k=some v:=h;unfold orM at h;cases hv:(cz R).cK k with
 |none=>rw[hv]at h;exact o.mt k v h
 |some x=>rw[hv]at h;exact o.vt k v (hv.trans h)
end
section
variable{A:aO}(HA:bH A){Λ:bU}{w:World}{br:Nat}{R:MR}
include HA
theorem Ok.eQ(ho:Ok A R):Ok A (nJ A R)/\(nJ A R).out.length<=R.out.length+20000/\(nJ A R).sc.i=R.sc.i/\(nJ A R).sc.sz=R.sc.sz:=by
 unfold nJ;obtain⟨r1,r2,r3,_⟩:=Dl R;split
 ·have hi:=ho.i
  have hz:=ho.sz;obtain⟨h1,h2,h3,h4⟩:=ho.Ji.zu HA (i:=R.sc.i) (by omega);have e:(rz R).out=R.out:=r3;rw[e]at h2;exact⟨h1,h2,h3.trans r2,h4.trans r1⟩
 ·exact⟨ho,Nat.le_add_right _ _,rfl,rfl⟩
theorem Yf(h:Wk Λ br R w)(ho:Ok A R)(hb:R.out.length<=840000):ag Tryz.prog 107 #[Ptt br] w (λv w'=>v=.tuple #[]/\Wk Λ br (nJ A R) w'/\Kz w w'):=by
 refine ah Tryz.func107 rfl rfl ?_;refine⟨_,UH h ho.sn.1,?_⟩;rintro _ w1 ⟨rfl,h1,k1⟩;obtain⟨r1,r2,r3,r4,r5⟩:=Dl R;have hi:=ho.i;have hz:=ho.sz;refine aj (λd=>?_) (λd=>?_)
 ·have d1:¬(R.sc.sz=1\/R.sc.seen≠4294967295):=λe=>by simp[e]at d
  have em:nJ A R=R:=if_neg d1;have er:cz R=R:=if_pos (.inr (by omega));rw[er]at h1;rw[em];exact⟨rfl,h1,k1⟩
 ·have d1:R.sc.sz=1\/R.sc.seen≠4294967295:=by
   by_cases e:R.sc.sz=1\/R.sc.seen≠4294967295
   ·exact e
   ·simp[e]at d
  have em:nJ A R=lu A (rz R) R.sc.i:=if_pos d1;rw[em];obtain⟨a,h1⟩:=h1;refine⟨_,_,_,h1.ri.mem,rfl,rfl,λw2 m2 g2=>?_⟩;have h2:=h1.cell (s':={ (cz R).sc with role:=1 }) m2 g2;have k2:=h1.ri.kz h1.ri.jo g2;have hne:a.vm≠a.mt:=by have:=h2.ri.sep;simp at this;omega
  refine⟨by kernel_rfl,_,_,h2.ri.mem,_,rfl,_,_,h2.ri.mem,_,rfl,_,GL h2.ri.mt h2.ri.vm hne,?_⟩;rintro _ w3 ⟨rfl,hm3,g3⟩;have h3:Wa Λ br (rz R) a w3:=h2.step h2.ri.nu g3 (h2.ri.Ri g3 hm3);have k3:=h2.ri.kz h2.ri.nu g3;have ec:=Nu HA ⟨_,h3⟩ ho.Ji (i:=R.sc.i) (by omega) (by show(cz R).out.length<=_;rw[r3];exact hb);have ei:(rz R).sc.i=R.sc.i:=r2;rw[<-ei]at ec;refine⟨_,_,h3.ri.mem,_,rfl,_,ec,?_⟩;rintro _ w4 ⟨rfl,h4,k4⟩;rw[ei]at h4;exact⟨rfl,h4,((k1.trans k2).trans k3).trans k4⟩
end
def gP(g:Nat->Option MV)(vs:List MV):Nat->Option MV:=vs.foldl mR g
theorem xN{g:Nat->Option MV}{v:MV}(h:g v.slot=none):mR g v=upd g v.slot (some v):=by unfold mR;rw[h]
theorem zw{g:Nat->Option MV}{v o:MV}(h:g v.slot=some o)(hb:o.b.lt v.b=true):mR g v=upd g v.slot (some v):=by unfold mR;rw[h];exact if_pos hb
theorem Bp{g:Nat->Option MV}{v o:MV}(h:g v.slot=some o)(hb:o.b.lt v.b=false):mR g v=g:=by unfold mR;rw[h];exact if_neg (by rw[hb];decide)
def jr(A:aO)(R:MR)(f:Nat×Nat)(b:bF)(vs:List MV):MR:=if R.sc.role≠1\/b≠R.sc.b then R else lu A { R with met:=gP R.met vs } f.2
theorem xO{g:Nat->Option MV}{vs:List MV}{k:Nat}{v:MV}(h:vs[k]? = some v):gP g (vs.take (k+1))=mR (gP g (vs.take k)) v:=by
 unfold gP;rw[take_add_one,h,Option.toList_some,foldl_append];rfl
theorem Bq{P:Nat->MV->Prop}:∀(vs:List MV) {g:Nat->Option MV},(∀k v,g k=some v->P k v)->(∀v∈vs,P v.slot v)->∀k v,gP g vs k=some v->P k v
 | [],g,hg,_=>hg
 |x::vs,g,hg,hv=>by
  have:∀k v,mR g x k=some v->P k v:=by
   cases h:g x.slot with
   |none=>rw[xN h];exact mY hg (hv x (mem_cons_self ..))
   |some o =>
    cases hb:o.b.lt x.b with
    |true=>rw[zw h hb];exact mY hg (hv x (mem_cons_self ..))
    |false=>rw[Bp h hb];exact hg
  exact Bq vs this λv h=>hv v (mem_cons_of_mem _ h)
theorem Yg{l:List MV}{ps:List (Value×Value)}(_hl:ps.length=l.length){k:Nat}{x:MV}{p:Value×Value}(hx:l[k]? = some x)(hp:ps[k]? = some p):aK (zipWith (λx p=>jU x p.1 p.2) l ps).flatten (k*20) 20=jU x p.1 p.2:=by
 have h:=jZ (f:=λq:MV×(Value×Value)=>jU q.1 q.2.1 q.2.2) (size:=20) (λ_=>rfl) (l.zip ps) k (x,p) (by rw[getElem?_zip_eq_some];exact⟨hx,hp⟩);rw[<-h];congr 1
 rw[flatMap_def,map_zip_eq_zipWith];rfl
section
variable{A:aO}{R:MR}
theorem Ok.gP(ho:Ok A R){vs:List MV}(hv:∀v∈vs,A.gc v.c/\v.slot<60):Ok A { R with met:=gP R.met vs }:=⟨ho.sz,ho.i,ho.st,ho.kn,ho.pp,ho.vt,ho.wv,Bq (P:=λk (v:MV)=>A.gc v.c/\k<60/\v.slot=k) vs ho.mt λv h=>⟨(hv v h).1,(hv v h).2,rfl⟩,ho.ac,ho.pr,ho.lg,ho.lc,ho.nx,ho.sn⟩
end
section
variable{A:aO}(HA:bH A){Λ:bU}{w:World}{br:Nat}{R:MR}
include HA
theorem Px(h:Wk Λ br R w)(ho:Ok A R)(f:Nat×Nat)(hf:f.2<5)(b:bF){vs:List MV}(hv:∀v∈vs,A.gc v.c/\v.slot<60)(hvl:vs.length<=1000000){vv:Value}(hvs:bY w vv vs)(hb:R.out.length<=840000):ag Tryz.prog 116 #[Ptt br,.agg #[.int .u8 f.1,.int .u8 f.2],.agg (bC b).toArray,vv] w (λv w'=>v=.tuple #[]/\Wk Λ br (jr A R f b vs) w'/\Kz w w'):=by
 have aeX:=hvs;obtain⟨va,vc,rfl⟩:=hvs.sl;refine ah Tryz.func116 rfl rfl ?_;intro w1 b1 m1 g1 l1 w2 b2 m2 g2 l2;have m1:=g2.get m1 nofun;have g:=g1.trans g2;have h20:=h.au g;have h2:=h20;obtain⟨a,h2⟩:=h2;refine⟨by kernel_rfl,_,_,h2.ri.mem,_,rfl,aj (λc=>?_) (λc=>?_)⟩
 ·have c1:R.sc.role=1:=by simp at c;omega
  refine⟨_,_,m2,_,rfl,rfl,_,_,h2.ri.mem,_,rfl,rfl,aj (λd=>?_) (λd=>?_)⟩
  ·have d1:b≠R.sc.b:=by rintro rfl;simp at d
   have em:jr A R f b vs=R:=if_pos (.inr d1);rw[em];exact⟨rfl,h20,g.kz⟩
  ·have d1:b=R.sc.b:=by
    have e:b.n=R.sc.b.n/\b.id=R.sc.b.id:=by simp at d;omega
    exact bF.eq e.1 e.2
   have em:jr A R f b vs=lu A { R with met:=gP R.met vs } f.2:=if_neg (by rintro(e|e);exact e c1;exact e d1);rw[em];obtain⟨ps,hpl,⟨Nv,Nw,hve,hvc,ahG,hvd⟩,hps⟩:=aeX.kz g.kz;cases hve
   refine⟨λq s w3=>∃(k:Nat),q=vs.length - k/\k<=vs.length/\s=[(0,Ptt br),(5,Ptt b1),(26,.slice va vs.length vc),(27,.int .i64 vs.length),(28,.int .i64 k)]/\Wk Λ br { R with met:=gP R.met (vs.take k) } w3/\Kz w2 w3,⟨_,_,⟨0,rfl,Nat.zero_le _,rfl,h20,Kz.refl _⟩,rfl,rfl,rfl,rfl,rfl,trivial⟩,?_⟩;rintro q s w3 ⟨k,rfl,hk,rfl,⟨a3,h3⟩,k3⟩;refine aj (λe=>?_) (λe=>?_)
   ·have e1:k<vs.length:=by simp at e;omega
    rcases hvd with⟨_,h0⟩|⟨B,off,cs,rfl,hB,hcut⟩
    ·omega
    obtain⟨x,hx⟩:∃x,vs[k]? = some x:=⟨vs[k],by simp[e1]⟩;obtain⟨⟨rv,dv⟩,hp⟩:∃p,ps[k]? = some p:=⟨ps[k],by simp[hpl,e1]⟩;have hr:=(hps k x _ hx hp).kz k3;obtain⟨ra,rn,rc,da,dn,dc,er,ed⟩:=hr.sl;dsimp only at er ed;subst er ed;have hB3:=k3 _ (by decide) _ _ hB;refine⟨by omega,_,_,hB3,jU x (.slice ra rn rc) (.slice da dn dc),(Fz.elem hcut e1).trans (Yg hpl hx hp),rfl,λw4 b4 m4 g4 l4=>⟨_,_,_,m4,rfl,rfl,λw5 m5 g5=>?_⟩⟩;have uK:GB none w3 w5:=g4.new g5 l4;have h5:=h3.box uK m5 l4;have u5:=h3.q9 l4;obtain⟨ff,xh,e2',e3'⟩:=h5.ri.mt;refine⟨by kernel_rfl,_,_,h5.ri.mem,_,rfl,_,_,m5,_,rfl,ff,xh,?_⟩;have hv5:∀w',Kz w5 w'->pF w' (.agg (jU x (.slice ra rn rc) (.slice da dn dc)).toArray) x:=λw' kk=>⟨_,_,rfl,(hr.kz uK.kz).kz kk⟩
    rcases kC e3' x.slot with⟨n1,n2⟩|⟨o,v,n1,n2,rv,dv,rfl,hro⟩
    ·rw[n2]
     refine λw6 b6 m6 g6 l6=>⟨⟨xh.keep (g6.block _ (h5.ri.lt h5.ri.nu) nofun),g6.get m5 nofun,(h5.au g6).ri.mem,trivial⟩,⟨_,_,_,m6,rfl,rfl,λw7 m7 g7=>?_⟩⟩
     have xg:GB none w5 w7:=g6.new g7 l6;have h7:=h5.au xg;have qG:=xg.get m5 nofun;obtain⟨f7,p1,p2,p3⟩:=h7.ri.mt;refine⟨by kernel_rfl,_,_,h7.ri.mem,_,rfl,_,_,qG,_,rfl,_,_,qG,jU x (.slice ra rn rc) (.slice da dn dc),rfl,rfl,f7,p1,λw8 m8 g8=>?_⟩;have k8:=h7.ri.kz h7.ri.nu g8;have h8:=h7.step h7.ri.nu g8 (h7.ri.Ri g8 (bT.put (λ_ _ h=>h.kz k8) p2 p3 (hv5 w8 (xg.kz.trans k8)) m8));refine⟨by omega,_,_,⟨k+1,rfl,by omega,rfl,?_,k3.trans ((uK.kz.trans xg.kz).trans k8)⟩,⟨rfl,rfl,rfl,rfl,rfl,trivial⟩,by omega⟩;rw[xO hx,xN n1];exact Wk.drop ⟨_,h8⟩ u5
    ·rw[n2]
     obtain⟨uo,Kw,rc',sj,yA,su,rfl,rfl⟩:=hro.sl;refine λw6 b6 m6 g6 l6=>⟨⟨xh.keep (g6.block _ (h5.ri.lt h5.ri.nu) nofun),g6.get m5 nofun,(h5.au g6).ri.mem,trivial⟩,⟨_,_,_,m6,rfl,rfl,λw7 m7 g7=>?_⟩⟩
     have xg:GB none w5 w7:=g6.new g7 l6;have qG:=xg.get m5 nofun;refine⟨_,_,m7,bC o.b,rfl,rfl,_,_,qG,bC x.b,rfl,rfl,_,D7 w7 o.b x.b,?_⟩;rintro _ w8 ⟨rfl,g8⟩;have Dm:=xg.trans g8;have h8:=h5.au Dm;have qG:=Dm.get m5 nofun;refine aj (λj=>?_) (λj=>?_)
     ·obtain⟨f7,p1,p2,p3⟩:=h8.ri.mt
      refine⟨by kernel_rfl,_,_,h8.ri.mem,_,rfl,_,_,qG,_,rfl,_,_,qG,jU x (.slice ra rn rc) (.slice da dn dc),rfl,rfl,f7,p1,λw9 m9 g9=>?_⟩;have k9:=h8.ri.kz h8.ri.nu g9;have h9:=h8.step h8.ri.nu g9 (h8.ri.Ri g9 (bT.put (λ_ _ h=>h.kz k9) p2 p3 (hv5 w9 (Dm.kz.trans k9)) m9));refine⟨by omega,_,_,⟨k+1,rfl,by omega,rfl,?_,k3.trans ((uK.kz.trans Dm.kz).trans k9)⟩,⟨rfl,rfl,rfl,rfl,rfl,trivial⟩,by omega⟩;rw[xO hx,zw n1 j];exact Wk.drop ⟨_,h9⟩ u5
     ·refine⟨by omega,_,_,⟨k+1,rfl,by omega,rfl,?_,k3.trans (uK.kz.trans Dm.kz)⟩,⟨rfl,rfl,rfl,rfl,rfl,trivial⟩,by omega⟩
      rw[xO hx,Bp n1 j];exact Wk.drop ⟨_,h8⟩ u5
   ·have e1:k=vs.length:=by simp at e;omega
    subst e1;rw[take_length]at h3;have Fu:=k3 _ (by decide) _ _ m1;refine⟨_,_,Fu,_,rfl,_,Nu HA ⟨_,h3⟩ (ho.gP hv) hf hb,?_⟩;rintro _ w4 ⟨rfl,h4,k4⟩;exact⟨rfl,h4,(g.kz.trans k3).trans k4⟩
 ·have c1:R.sc.role≠1:=by simp at c;omega
  have em:jr A R f b vs=R:=if_pos (.inl c1);rw[em];exact⟨rfl,h20,g.kz⟩
end
theorem Rs{α β:Type}{F:α->β->List Value}{size:Nat}(hF:∀x y,(F x y).length=size){l:List α}{ps:List β}{k:Nat}{x:α}{p:β}(hx:l[k]? = some x)(hp:ps[k]? = some p):aK (zipWith F l ps).flatten (k*size) size=F x p:=by
 have h:=jZ (f:=λq:α×β=>F q.1 q.2) (size:=size) (λq=>hF q.1 q.2) (l.zip ps) k (x,p) (by rw[getElem?_zip_eq_some];exact⟨hx,hp⟩);rw[<-h];congr 1
 rw[flatMap_def,map_zip_eq_zipWith];rfl
def mo(enc:MM->ByteArray)(R:MR)(k:Nat):MR:=match R.props k with
 |some c=>Kj enc R k c
 |none=>R
def rA(enc:MM->ByteArray)(R:MR)(g:Nat):MR:=match(R.st.O.getD g (0,[])).2 with
 | []=>R
 |r::_=>lJ enc R { aN 9 with r:=r } (fU R.sc.g R.sc.i g R.sc.sz)
def iG(enc:MM->ByteArray)(R:MR)(n:Nat):MR:=(List.range n).foldl (mo enc) R
def jg(enc:MM->ByteArray)(R:MR)(n:Nat):MR:=(List.range n).foldl (rA enc) R
def sS(enc:MM->ByteArray)(R:MR):MR:=jg enc (iG enc R R.sc.next) R.st.O.length
theorem zx(enc:MM->ByteArray)(R:MR)(n:Nat):iG enc R (n+1)=mo enc (iG enc R n) n:=by unfold iG;rw[range_succ,foldl_append];rfl
theorem zy(enc:MM->ByteArray)(R:MR)(n:Nat):jg enc R (n+1)=rA enc (jg enc R n) n:=by unfold jg;rw[range_succ,foldl_append];rfl
structure kE(R R':MR)(n:Nat):Prop where
 eq:R'={ R with out:=R'.out }
 len:R'.out.length<=R.out.length+n
theorem kE.snd{R R':MR}{n:Nat}(h:kE R R' n)(enc:MM->ByteArray)(m:MM){tl:List (Nat×Nat)}(ht:tl.length<=5):kE R (lJ enc R' m tl) (n+5):=by
 refine⟨?_,by rw[kD];have:=h.len;omega⟩;have h1:lJ enc R' m tl={ R' with out:=(lJ enc R' m tl).out }:=rfl;rw[h1];have:=h.eq;generalize (lJ enc R' m tl).out=o;rw[this]
theorem kE.weak{R R':MR}{n m:Nat}(h:kE R R' n)(hm:n<=m):kE R R' m:=⟨h.eq,by have:=h.len;omega⟩
theorem kE.f{R R':MR}{n:Nat}(h:kE R R' n):R'.sc=R.sc/\R'.props=R.props/\R'.st=R.st:=by rw[h.eq];exact⟨rfl,rfl,rfl⟩
theorem kE.ok{A:aO}{R R':MR}{n:Nat}(h:kE R R' n)(o:Ok A R):Ok A R':=by
 rw[h.eq];exact⟨o.sz,o.i,o.st,o.kn,o.pp,o.vt,o.wv,o.mt,o.ac,o.pr,o.lg,o.lc,o.nx,o.sn⟩
theorem xk(enc:MM->ByteArray)(R:MR)(hz:R.sc.sz<=5):∀n,kE R (iG enc R n) (5*n)
 |0=>⟨rfl,Nat.le_refl _⟩
 |n+1=>by
  have ih:=xk enc R hz n;rw[zx];unfold mo;split
  ·have:=jf (iG enc R n).sc.g (iG enc R n).sc.i (iG enc R n).sc.g (iG enc R n).sc.sz
   rw[ih.f.1]at this;exact ih.snd _ _ (by rw[ih.f.1];omega)
  ·exact ih.weak (by omega)
theorem xm(enc:MM->ByteArray)(R:MR)(hz:R.sc.sz<=5):∀n,kE R (jg enc R n) (5*n)
 |0=>⟨rfl,Nat.le_refl _⟩
 |n+1=>by
  have ih:=xm enc R hz n;rw[zy];unfold rA;split
  ·exact ih.weak (by omega)
  ·have:=jf (jg enc R n).sc.g (jg enc R n).sc.i n (jg enc R n).sc.sz
   rw[ih.f.1]at this;exact ih.snd _ _ (by rw[ih.f.1];omega)
theorem UQ{w:World}{vO:Value}{O:List (Int×List Rg)}(h:∃qs:List Value,qs.length=O.length/\Fz w 103 2 vO O.length (zipWith (λ(o:Int×List Rg) q=>[Value.int .u32 o.1,q]) O qs).flatten/\∀(i:Nat) (o:Int×List Rg) (q:Value),O[i]? = some o->qs[i]? = some q->qE w q o.2){p:Nat}(hp:p<O.length):∃b off cap cs n q,vO=.slice (some ⟨b,off,none⟩) O.length cap/\O.length<=cap/\w.heap[b]? = some (.cells cs 103)/\aK cs.toList (off+p*2) 2=[.int .u32 n,q]/\qE w q (O.getD p (0,[])).2:=by
 obtain⟨qs,h1,⟨a,c,rfl,h3,h4,h5⟩,h6⟩:=h;rcases h5 with⟨_,h0⟩|⟨b,off,cs,rfl,hb,hcut⟩
 ·omega
 obtain⟨o,ho⟩:∃o,O[p]? = some o:=⟨O[p],by simp[hp]⟩;obtain⟨q,hq⟩:∃q,qs[p]? = some q:=⟨qs[p],by simp[h1,hp]⟩;refine⟨b,off,c,cs,o.1,q,rfl,h3,hb,(Fz.elem hcut hp).trans (Rs (F:=λ(o:Int×List Rg) q=>[Value.int .u32 o.1,q]) (λ_ _=>rfl) ho hq),?_⟩;rw[getD_eq_getElem?_getD,ho];exact h6 p o q ho hq
section
variable{A:aO}(HA:bH A){Λ:bU}{w:World}{br:Nat}{R:MR}
include HA
theorem Iq(h:Wk Λ br R w)(ho:Ok A R)(hb:R.out.length<=880000):ag Tryz.prog 110 #[Ptt br] w (λv w'=>v=.tuple #[]/\Wk Λ br (sS A.enc R) w'/\Kz w w'):=by
 have h0:=h;obtain⟨a,h⟩:=h;have hz:=ho.sz;have hnx:=ho.nx;have hol:=HA.ol _ ho.st;refine ah Tryz.func110 rfl rfl ?_;refine⟨_,_,h.ri.mem,_,rfl,?_⟩;refine⟨λn s w'=>∃(k:Nat),n=R.sc.next - k/\k<=R.sc.next/\s=[(0,Ptt br),(10,.int .u32 R.sc.next),(11,.int .u32 k)]/\Wk Λ br (iG A.enc R k) w'/\Kz w w',⟨_,_,⟨0,rfl,Nat.zero_le _,rfl,h0,Kz.refl _⟩,rfl,rfl,rfl,trivial⟩,?_⟩;rintro n s w1 ⟨k,rfl,hk,rfl,h10,k1⟩;have h1:=h10;obtain⟨a1,h1⟩:=h1;have O1:=xk A.enc R hz k;obtain⟨f1,f2,f3⟩:=O1.f;have lo1:=O1.len;refine aj (λc=>?_) (λc=>?_)
 ·have c1:k<R.sc.next:=by simp at c;omega
  obtain⟨f,e1,e2,e3⟩:=h1.ri.pp;refine⟨_,_,h1.ri.mem,_,rfl,f,e1,λw2 b2 m2 g2 l2=>?_⟩;rcases kC e3 k with⟨n1,n2⟩|⟨y,v,n1,n2,rv,dv,rfl,hr⟩
  ·rw[n2]
   refine⟨_,_,_,m2,rfl,rfl,λw3 m3 g3=>?_⟩;have g13:GB none w1 w3:=g2.new g3 l2;refine⟨by omega,_,_,⟨k+1,rfl,by omega,rfl,?_,k1.trans g13.kz⟩,⟨rfl,rfl,rfl,trivial⟩,by omega⟩;rw[zx];unfold mo;rw[n1];exact h10.au g13
  ·rw[n2]
   obtain⟨ra,rn,rc,da,dn,dc,rfl,rfl⟩:=hr.sl;refine⟨_,_,_,m2,rfl,rfl,λw3 m3 g3=>?_⟩;have g13:GB none w1 w3:=g2.new g3 l2;refine⟨_,_,m3,dC y (.slice ra rn rc) (.slice da dn dc),rfl,rfl,_,Wp HA.nI (h10.au g13) (by rw[f1];exact hz) (c:=y) ⟨_,_,rfl,hr.kz g13.kz⟩ (by omega),?_⟩;rintro _ w4 ⟨rfl,h4,k4⟩;refine⟨by omega,_,_,⟨k+1,rfl,by omega,rfl,?_,(k1.trans g13.kz).trans k4⟩,⟨rfl,rfl,rfl,trivial⟩,by omega⟩;rw[zx];unfold mo;rw[n1];exact h4
 have c1:k=R.sc.next:=by simp at c;omega
 subst c1;have o1:Ok A (iG A.enc R R.sc.next):=O1.ok ho;have eR:sS A.enc R=jg A.enc (iG A.enc R R.sc.next) (iG A.enc R R.sc.next).st.O.length:=by unfold sS;rw[f3]
 have ahH:(iG A.enc R R.sc.next).st.O.length<=200:=by rw[f3];exact hol
 have hz1:(iG A.enc R R.sc.next).sc.sz<=5:=by rw[f1];exact hz
 rw[eR];generalize iG A.enc R R.sc.next=R1 at *;obtain⟨vm,wm,kn,mt,pp,ac,lg,ob,sT,sM,sD,sO,sI⟩:=a1;have hO:=h1.ri.st.O;obtain⟨oa,oc,rfl⟩:∃oa oc,sO=.slice oa R1.st.O.length oc:=by obtain⟨_,_,⟨a,c,h,_⟩,_⟩:=hO;exact⟨a,c,h⟩
 refine⟨_,_,h1.ri.mem,_,rfl,?_⟩;refine⟨λn s w'=>∃(k:Nat),n=R1.st.O.length - k/\k<=R1.st.O.length/\s=[(0,Ptt br),(33,.slice oa R1.st.O.length oc),(34,.int .i64 R1.st.O.length),(35,.int .i64 k)]/\Wk Λ br (jg A.enc R1 k) w'/\Kz w1 w',⟨_,_,⟨0,rfl,Nat.zero_le _,rfl,h10,Kz.refl _⟩,rfl,rfl,rfl,rfl,trivial⟩,?_⟩;rintro n s w2 ⟨k,rfl,hk,rfl,h2,k2⟩;have O2:=xm A.enc R1 hz1 k;obtain⟨q1,q2,q3⟩:=O2.f;have lo2:=O2.len;refine aj (λd=>?_) (λd=>?_)
 ·have d1:k<R1.st.O.length:=by simp at d;omega
  obtain⟨B,off,cap,cs,nn,q,ee,hcap,hB,hcut,hQ⟩:=UQ hO d1;cases ee
  have Wx:=hQ.kz k2;obtain⟨qa,qn,qc,rfl⟩:∃qa qn qc,q=.slice qa qn qc:=by obtain⟨_,_,⟨a,c,h,_⟩,_⟩:=hQ;exact⟨a,_,c,h⟩
  refine⟨by omega,_,_,k2 _ (by decide) _ _ hB,[.int .u32 nn,.slice qa qn qc],hcut,rfl,λw3 b3 m3 g3 l3=>⟨_,_,_,m3,rfl,rfl,λw4 m4 g4=>?_⟩⟩;have g24:GB none w2 w4:=g3.new g4 l3;have h4:=h2.au g24;refine⟨_,_,m4,_,rfl,?_⟩;cases hl:(R1.st.O.getD k (0,[])).2 with
  |nil =>
   rw[hl]at Wx;obtain⟨_,_,⟨_,_,he,_⟩,_⟩:=Wx;cases he
   refine⟨by omega,_,_,⟨k+1,rfl,by omega,rfl,?_,k2.trans g24.kz⟩,⟨rfl,rfl,rfl,rfl,trivial⟩,by omega⟩;rw[zy];unfold rA;rw[q3,hl];exact h4
  |cons r rs =>
   rw[hl]at Wx;obtain⟨b,o,uO,cq,rv,dv,he,hqc,hbq,hcq,hr⟩:=Wx.hd;cases he
   have e2:jg A.enc R1 (k+1)=lJ A.enc (jg A.enc R1 k) { aN 9 with r:=r } (fU (jg A.enc R1 k).sc.g (jg A.enc R1 k).sc.i k (jg A.enc R1 k).sc.sz):=by
    rw[zy];unfold rA;rw[q3,hl]
   refine aj (λe=>?_) (λe=>?_)
   ·have aaw:=g24.get hbq nofun
    refine⟨by kernel_rfl,_,_,m4,_,rfl,by omega,_,_,aaw,eu r rv dv,hcq,rfl,.inl ⟨by omega,_,Bg h4 k (by rw[q1];exact hz1),?_⟩⟩;rintro v w5 ⟨hv,g5⟩;have hol:=jf (jg A.enc R1 k).sc.g (jg A.enc R1 k).sc.i k (jg A.enc R1 k).sc.sz;rw[q1]at hol;refine⟨⟨g5.get aaw nofun,g5.get m4 nofun,trivial⟩,_,nQ HA.nI (h4.au g5) (m:={ aN 9 with r:=r }) ⟨_,_,_,_,_,rfl,aM.zero _,bY.zero _,(hr.kz g24.kz).kz g5.kz⟩ hv (by rw[q1];omega),?_⟩;rintro _ w6 ⟨rfl,h6,k6⟩;refine⟨by omega,_,_,⟨k+1,rfl,by omega,rfl,?_,((k2.trans g24.kz).trans g5.kz).trans k6⟩,⟨rfl,rfl,rfl,rfl,trivial⟩,by omega⟩;rw[e2];exact h6
   ·exfalso;simp at e
 ·have d1:k=R1.st.O.length:=by simp at d;omega
  subst d1;exact⟨rfl,h2,k1.trans k2⟩
end
def bK(A:aO)(R:MR):MR:=if R.sc.role=0 then nJ A R else R
def gF(A:aO)(R:MR):MR:=lJ A.enc R { aN 3 with b:=R.sc.b } (fU R.sc.g R.sc.i R.sc.g R.sc.sz)
def rC(A:aO)(R:MR):MR:=if R.sc.role=0 then R else if R.sc.role=2 then sS A.enc (gF A R)else gF A R
def mr(A:aO)(R:MR):MR:=rC A (bK A R)
theorem E5{n:Nat}(h:((n:Int) == 2)=true):n=2:=by simp at h;omega
theorem M6{n:Nat}(h:((n:Int) == 2)=false):¬n=2:=by simp at h;omega
section
variable{A:aO}(HA:bH A){Λ:bU}{w:World}{br:Nat}{R:MR}
include HA
theorem Ok.bK(ho:Ok A R):Ok A (bK A R)/\(bK A R).out.length<=R.out.length+20000/\(bK A R).sc.i=R.sc.i/\(bK A R).sc.sz=R.sc.sz:=by
 unfold Go.Proofs.YtignemioillaiaaGreat.bK;split
 ·exact ho.eQ HA
 ·exact⟨ho,Nat.le_add_right _ _,rfl,rfl⟩
theorem Ok.rC(ho:Ok A R):Ok A (rC A R):=by
 unfold Go.Proofs.YtignemioillaiaaGreat.rC;split
 ·exact ho
 ·have o2:Ok A (gF A R):=ho.snd _ _ _
  split
  ·have O1:=xk A.enc (gF A R) ho.sz (gF A R).sc.next
   have o3:=O1.ok o2;exact(xm A.enc _ o3.sz _).ok o3
  ·exact o2
theorem Ok.tick(ho:Ok A R):Ok A (mr A R):=(ho.bK HA).1.rC HA
theorem Yh(h:Wk Λ br R w)(ho:Ok A R)(hb:R.out.length<=840000):ag Tryz.prog 60 #[Ptt br] w (λv w'=>v=.tuple #[]/\Wk Λ br (mr A R) w'/\Kz w w'):=by
 have h0:=h;obtain⟨a,h⟩:=h;obtain⟨o1,l1,_,_⟩:=ho.bK HA;refine ah Tryz.func60 rfl rfl ?_;refine⟨_,_,h.ri.mem,_,rfl,aj (λc=>?_) (λc=>?_)⟩
 ·have c1:R.sc.role=0:=by simp at c;omega
  have e1:bK A R=nJ A R:=if_pos c1;refine⟨_,Yf HA h0 ho hb,?_⟩;rintro _ w1 ⟨rfl,h1,k1⟩;rw[<-e1]at h1;obtain⟨a1,h1⟩:=h1;refine⟨_,_,h1.ri.mem,_,rfl,aj (λd=>?_) (λd=>?_)⟩
  ·have d1:(bK A R).sc.role=0:=by simp at d;omega
   have em:mr A R=bK A R:=if_pos d1;rw[em];exact⟨rfl,⟨_,h1⟩,k1⟩
  have d1:¬(bK A R).sc.role=0:=by simp at d;omega
  refine⟨by kernel_rfl,_,_,h1.ri.mem,_,rfl,rfl,_,zn ⟨_,h1⟩ o1.sz,?_⟩;rintro v w2 ⟨hv,g2⟩;have hol:=jf (bK A R).sc.g (bK A R).sc.i (bK A R).sc.g (bK A R).sc.sz;have hz:=o1.sz;refine⟨⟨(h1.au g2).ri.mem,trivial⟩,_,nQ HA.nI (Wk.au ⟨_,h1⟩ g2) (m:={ aN 3 with b:=(bK A R).sc.b }) ⟨_,_,_,_,_,rfl,aM.zero _,bY.zero _,aM.zero _⟩ hv (by omega),?_⟩;rintro _ w3 ⟨rfl,h3,k3⟩;have kk:=(k1.trans g2.kz).trans k3;have Rt:Wk Λ br (gF A (bK A R)) w3:=h3;obtain⟨a3,h3⟩:=h3;refine⟨_,_,h3.ri.mem,_,rfl,aj (λe=>?_) (λe=>?_)⟩
  ·have xh:(bK A R).sc.role=2:=E5 e
   have em:mr A R=sS A.enc (gF A (bK A R)):=(if_neg d1).trans (if_pos xh);rw[em];refine⟨_,Iq HA Rt (o1.snd _ _ _) (by unfold gF;rw[kD];omega),?_⟩;rintro _ w4 ⟨rfl,h4,k4⟩;exact⟨rfl,h4,kk.trans k4⟩
  ·have xh:¬(bK A R).sc.role=2:=M6 e
   have em:mr A R=gF A (bK A R):=(if_neg d1).trans (if_neg xh);rw[em];exact⟨rfl,Rt,kk⟩
 ·have c1:¬R.sc.role=0:=by simp at c;omega
  have e1:bK A R=R:=if_neg c1;have h1:=h0;rw[<-e1]at h1;have k1:=Kz.refl w;obtain⟨a1,h1⟩:=h1;refine⟨_,_,h1.ri.mem,_,rfl,aj (λd=>?_) (λd=>?_)⟩
  ·have d1:(bK A R).sc.role=0:=by simp at d;omega
   have em:mr A R=bK A R:=if_pos d1;rw[em];exact⟨rfl,⟨_,h1⟩,k1⟩
  have d1:¬(bK A R).sc.role=0:=by simp at d;omega
  refine⟨by kernel_rfl,_,_,h1.ri.mem,_,rfl,rfl,_,zn ⟨_,h1⟩ o1.sz,?_⟩;rintro v w2 ⟨hv,g2⟩;have hol:=jf (bK A R).sc.g (bK A R).sc.i (bK A R).sc.g (bK A R).sc.sz;have hz:=o1.sz;refine⟨⟨(h1.au g2).ri.mem,trivial⟩,_,nQ HA.nI (Wk.au ⟨_,h1⟩ g2) (m:={ aN 3 with b:=(bK A R).sc.b }) ⟨_,_,_,_,_,rfl,aM.zero _,bY.zero _,aM.zero _⟩ hv (by omega),?_⟩;rintro _ w3 ⟨rfl,h3,k3⟩;have kk:=(k1.trans g2.kz).trans k3;have Rt:Wk Λ br (gF A (bK A R)) w3:=h3;obtain⟨a3,h3⟩:=h3;refine⟨_,_,h3.ri.mem,_,rfl,aj (λe=>?_) (λe=>?_)⟩
  ·have xh:(bK A R).sc.role=2:=E5 e
   have em:mr A R=sS A.enc (gF A (bK A R)):=(if_neg d1).trans (if_pos xh);rw[em];refine⟨_,Iq HA Rt (o1.snd _ _ _) (by unfold gF;rw[kD];omega),?_⟩;rintro _ w4 ⟨rfl,h4,k4⟩;exact⟨rfl,h4,kk.trans k4⟩
  ·have xh:¬(bK A R).sc.role=2:=M6 e
   have em:mr A R=gF A (bK A R):=(if_neg d1).trans (if_neg xh);rw[em];exact⟨rfl,Rt,kk⟩
end
def pJ(R:MR):MR:={ R with sc:={ R.sc with wb:=R.sc.b },fM:=orM R.cK R.fM }
def mStart(A:aO)(R:MR):MR:={ gq R with known:=λ_=>none,cK:=orM R.fM λ_=>none,sc:={ (gq R).sc with b:=R.sc.wb,seen:=R.sc.wb.n },log:=[],st:=A.bg R.sc.g R.sc.gs }
section
variable{A:aO}{Λ:bU}{w:World}{br:Nat}{R:MR}
theorem Ru{P:Nat->MV->Prop}{f g:Nat->Option MV}(hf:∀k v,f k=some v->P k v)(hg:∀k v,g k=some v->P k v):∀k v,orM f g k=some v->P k v:=by
 intro k v h;unfold orM at h;cases hv:f k with
 |none=>rw[hv]at h;exact hg k v h
 |some x=>rw[hv]at h;exact hf k v (hv.trans h)
theorem Ok.write(ho:Ok A R):Ok A (pJ R):=⟨ho.sz,ho.i,ho.st,ho.kn,ho.pp,ho.vt,Ru ho.vt ho.wv,ho.mt,ho.ac,ho.pr,ho.lg,ho.lc,ho.nx,ho.sn.1,ho.sn.2.1,ho.sn.2.1⟩
end
section
variable{A:aO}(HA:bH A){Λ:bU}{w:World}{br:Nat}{R:MR}
include HA
theorem Ok.start(ho:Ok A R):Ok A (mStart A R):=⟨ho.sz,ho.i,HA.Co _ _ ho.i.2.2.2 ho.i.2.1 ho.i.2.2.1,λ_ _ h=>(by cases h),λ_ _ h=>(by cases h),Ru ho.wv (λ_ _ h=>(by cases h)),ho.wv,λ_ _ h=>(by cases h),λ_ _ h=>(by cases h),Nat.zero_lt_succ _,Nat.zero_le _,λ_ h=>(by cases h),ho.nx,ho.sn.2.2,ho.sn.2.2,ho.sn.2.2⟩
theorem Ky(h:Wk Λ br R w)(hg:R.sc.g<R.sc.gs)(hn:R.sc.gs<=4):ag Tryz.prog 61 #[Ptt br] w (λv w'=>v=.tuple #[]/\Wk Λ br (mStart A R) w'/\Kz w w'):=by
 refine ah Tryz.func61 rfl rfl ?_;refine⟨_,D6 br R Λ w h,?_⟩;rintro _ w1 ⟨rfl,⟨a,h1⟩,k1⟩;have eS:mStart A R={ gq R with known:=λ_=>none,cK:=orM (gq R).fM λ_=>none,sc:={ (gq R).sc with b:=(gq R).sc.wb,seen:=(gq R).sc.wb.n },log:=[],st:=A.bg (gq R).sc.g (gq R).sc.gs }:=rfl;have hg:(gq R).sc.g<(gq R).sc.gs:=hg;have hn:(gq R).sc.gs<=4:=hn;rw[eS];generalize gq R=R1 at *;obtain⟨vm,wm,kn,mt,pp,ac,lg,ob,sT,sM,sD,sO,sI⟩:=a;obtain⟨f,e1,_⟩:=h1.ri.kn;refine⟨_,_,h1.ri.mem,_,rfl,f,e1,λw2 m2 g2=>?_⟩;have h2:Wa Λ br { R1 with known:=λ_=>none } ⟨vm,wm,kn,mt,pp,ac,lg,ob,sT,sM,sD,sO,sI⟩ w2:=h1.step h1.ri.vV g2 (h1.ri.Es g2 (bT.none m2));have k2:=k1.trans (h1.ri.kz h1.ri.vV g2);obtain⟨f,e1,_⟩:=h2.ri.vm;refine⟨_,_,h2.ri.mem,_,rfl,f,e1,λw3 m3 g3=>?_⟩;have h3:Wa Λ br { R1 with known:=λ_=>none,cK:=λ_=>none } ⟨vm,wm,kn,mt,pp,ac,lg,ob,sT,sM,sD,sO,sI⟩ w3:=h2.step h2.ri.vU g3 (h2.ri.vm' g3 (bT.none m3));have k3:=k2.trans (h2.ri.kz h2.ri.vU g3);have hne:wm≠vm:=by have:=h3.ri.sep;simp at this;omega
 refine⟨by kernel_rfl,_,_,h3.ri.mem,_,rfl,_,_,h3.ri.mem,_,rfl,_,GL h3.ri.vm h3.ri.wm hne,?_⟩;rintro _ w4 ⟨rfl,hm4,g4⟩;have h4:Wa Λ br { R1 with known:=λ_=>none,cK:=orM R1.fM λ_=>none } ⟨vm,wm,kn,mt,pp,ac,lg,ob,sT,sM,sD,sO,sI⟩ w4:=h3.step h3.ri.vU g4 (h3.ri.vm' g4 hm4);have k4:=k3.trans (h3.ri.kz h3.ri.vU g4);refine⟨_,_,h4.ri.mem,_,rfl,rfl,_,_,_,h4.ri.mem,rfl,rfl,λw5 m5 g5=>?_⟩;have h5:Wa Λ br { R1 with known:=λ_=>none,cK:=orM R1.fM λ_=>none,sc:={ R1.sc with b:=R1.sc.wb } } ⟨vm,wm,kn,mt,pp,ac,lg,ob,sT,sM,sD,sO,sI⟩ w5:=h4.cell (s':={ R1.sc with b:=R1.sc.wb }) m5 g5;have k5:=k4.trans (h4.ri.kz h4.ri.jo g5);refine⟨_,_,h5.ri.mem,_,rfl,_,_,_,h5.ri.mem,rfl,rfl,λw6 m6 g6=>?_⟩;have h6:Wa Λ br { R1 with known:=λ_=>none,cK:=orM R1.fM λ_=>none,sc:={ R1.sc with b:=R1.sc.wb,seen:=R1.sc.wb.n } } ⟨vm,wm,kn,mt,pp,ac,lg,ob,sT,sM,sD,sO,sI⟩ w6:=h5.cell (s':={ R1.sc with b:=R1.sc.wb,seen:=R1.sc.wb.n }) m6 g6;have k6:=k5.trans (h5.ri.kz h5.ri.jo g6);refine⟨_,_,_,h6.ri.mem,rfl,rfl,λw7 m7 g7=>?_⟩;obtain⟨h7,k7⟩:=h6.lg' (lv:=.slice none 0 0) (ls:=[]) (GB.refl _ _) ⟨[],rfl,dZ _ _ _,λi c p h=>(by simp at h)⟩ nofun m7 g7;have k7:=k6.trans k7;have h7:Wa Λ br { R1 with known:=λ_=>none,cK:=orM R1.fM λ_=>none,sc:={ R1.sc with b:=R1.sc.wb,seen:=R1.sc.wb.n },log:=[] } ⟨vm,wm,kn,mt,pp,ac,Ptz,ob,sT,sM,sD,sO,sI⟩ w7:=h7;refine⟨by kernel_rfl,_,_,h7.ri.mem,_,rfl,.inl ⟨(λ(n:Nat) (h:n<=4)=>(by omega : -9223372036854775808<=(n:Int)/\(n:Int)<=9223372036854775807)) R1.sc.g (by omega),_,_,h7.ri.mem,_,rfl,_,HA.beg w7 R1.sc.g R1.sc.gs hg hn,?_⟩⟩;rintro _ w8 ⟨T,M,D,O,I,e,rfl,hs,g8⟩;obtain⟨ta,tn,tc,ma,mn,mc,da,dn,dc,oa,on,oc,ia,il,ic,rfl,rfl,rfl,rfl,rfl⟩:=(hs _ λ_ _ _=>rfl).sl;have h8:=h7.au g8;refine⟨_,_,_,h8.ri.mem,rfl,rfl,λw9 m9 g9=>?_⟩;have hbr:br<w7.heap.size:=ae h7.ri.mem;obtain⟨h9,k9⟩:=h8.st' (hs w9 λx hx hx3=>g9.block x hx3 λe=>by cases e;omega) m9 g9;exact⟨rfl,⟨_,h9⟩,(k7.trans g8.kz).trans k9⟩
end
end
