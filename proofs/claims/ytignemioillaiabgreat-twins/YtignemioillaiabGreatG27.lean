/- A replica at work (22): countPromise, maps.Copy, campaign. -/
import Derived.Test.YtignemioillaiabGreatG26
namespace Go.Proofs.YtignemioillaiabGreat
set_option maxHeartbeats 8000000
set_option linter.unusedSectionVars false
set_option maxRecDepth 100000
section
open Go Go.Conc
theorem GB.news {w0 w w':World} {d x:Nat} (h:GB (some d) w0 w) (k:GB (some x) w w') (hx:w0.heap.size≤x):GB (some d) w0 w' :=
 ⟨k.os.trans h.os,k.out.trans h.out,Nat.le_trans h.size k.size,fun y hy hd=>(k.block y (Nat.lt_of_lt_of_le hy h.size) (fun e=>by cases e;omega)).trans (h.block y hy hd)⟩
def orM (gs gd:Nat→Option MV):Nat→Option MV:=fun k=>(gs k).or (gd k)
theorem Ff {w:World} {d s:Nat} {gd gs:Nat→Option MV} (hd:bS nX w d gd) (hs:bS nX w s gs) (hne:s≠d):af Tryz.prog 148 #[.map (some d),.map (some s)] w (fun v w'=>v=.tuple #[]∧bS nX w' d (orM gs gd)∧GB (some d) w w'):=by
 refine ah au mixed Tryz.func148 rfl rfl ?_;obtain ⟨l,hl,hw⟩:=hs.walk;refine ⟨l,hl,fun w1 it i1 g1 l1=>?_⟩;obtain ⟨hm1,hm2⟩:=hw i1.nodup;have hdo:=hd.obj;refine ⟨fun n q w'=>∃ (todo:List (Int×Value)) (cur:Option (Int×Value)) (g:Nat→Option MV),n=todo.length∧q=[(0,.map (some d)),(7,.pointer (some ⟨it,0,none⟩))]∧mh w' it s l todo cur∧bS nX w' d g∧GB (some d) w w'∧(∀ k,g k=orM gs gd k∨(g k=gd k∧∃ v,((k:Int),v)∈todo))∧∀ p∈todo,p∈l,⟨_,_,⟨l,none,gd,rfl,rfl,i1,hd.keep (fun _ _ h=>h.kz g1.kz) (g1.block _ hd.lt nofun),g1.weak,?_,fun _ h=>h⟩,rfl,rfl,trivial⟩,?_⟩
 ·intro k
  cases hk:gs k with
  | none=>exact .inl (by unfold orM;rw [hk];rfl)
  | some x=>exact .inr ⟨rfl,by obtain ⟨v,h,_⟩:=hm2 k x hk;exact ⟨v,h⟩⟩
 rintro n q w2 ⟨todo,cur,g,rfl,rfl,i2,hg,gg,hinv,hsub⟩;refine ⟨s,l,todo,cur,i2,fun e0=>?_,?_⟩
 ·subst e0
  have:g=orM gs gd:=funext fun k=>(hinv k).elim id fun h=>by obtain ⟨_,_,h⟩:=h;cases h
  rw [← this];exact ⟨rfl,hg,gg⟩
 ·rintro i ⟨pk,pv⟩ w3 hi i3 g3
  obtain ⟨k,x,rfl,nO,rv,dv,rfl,hr⟩:=hm1 _ (hsub _ (List.mem_of_getElem? hi));obtain ⟨ra,rn,rc,da,dn,dc,rfl,rfl⟩:=hr.sl;have hil:i<todo.length:=(List.getElem?_eq_some_iff.1 hi).1;have NL:it<w3.heap.size:=by obtain ⟨_,_,_,_,h⟩:=i3.it;exact ae h
  have slt:s<w3.heap.size:=Nat.lt_of_lt_of_le (Nat.lt_of_lt_of_le hs.lt gg.size) g3.size;have Uz:it≠d:=fun e=>by have:=hd.lt;omega
  refine ⟨s,l,_,_,i3,fun w4 b4 m4 g4 l4=>⟨_,_,_,m4,rfl,rfl,fun w5 m5 g5=>?_⟩⟩;have tF:GB none w3 w5:=g4.new g5 l4;have k23:Kz w2 w3:=g3.BK fun c t _ hh=>by obtain ⟨_,_,_,_,h⟩:=i2.it;rw [h] at hh;cases hh
  have hg3:bS nX w3 d g:=hg.keep (fun _ _ h=>h.kz k23) (g3.block _ hg.lt fun e=>Uz (Option.some.inj e).symm);have hg5:bS nX w5 d g:=hg3.keep (fun _ _ h=>h.kz tF.kz) (tF.block _ hg3.lt nofun);have gg5:GB (some d) w w5:=(gg.news g3 l1).trans tF.weak;have UA:=hg5.obj;obtain ⟨f,e1,e2,e3⟩:=hg5;refine ⟨_,_,m5,jm x (.slice ra rn rc) (.slice da dn dc),rfl,rfl,f,e1,fun w6 m6 g6=>?_⟩;have k56:Kz w5 w6:=g6.BK fun c t _ hh=>by obtain ⟨_,_,h⟩:=UA;rw [h] at hh;cases hh
  have ND:Kz w w5:=gg5.BK fun c t _ hh=>by obtain ⟨_,_,h⟩:=hdo;rw [h] at hh;cases hh
  have hv6:nX w6 (.agg (jm x (.slice ra rn rc) (.slice da dn dc)).toArray) x:=⟨_,_,rfl,(hr.kz ND).kz k56⟩;refine ⟨_,_,⟨todo.eraseIdx i,_,upd g k (some x),rfl,rfl,i3.keep ((g6.block _ (Nat.lt_of_lt_of_le NL tF.size) fun e=>Uz (Option.some.inj e)).trans (tF.block _ NL nofun)) ((g6.block _ (Nat.lt_of_lt_of_le slt tF.size) fun e=>hne (Option.some.inj e)).trans (tF.block _ slt nofun)),bS.put (fun _ _ h=>h.kz k56) e2 e3 hv6 m6,gg5.trans g6,?_,fun p hp=>hsub p (List.mem_of_mem_eraseIdx hp)⟩,⟨rfl,rfl,trivial⟩,?_⟩
  ·intro k'
   unfold upd;by_cases e:k'=k
   ·subst e
    rw [if_pos rfl];exact .inl (by unfold orM;rw [nO];rfl)
   ·rw [if_neg e]
    rcases hinv k' with h | ⟨h,v,hv⟩
    ·exact .inl h
    ·exact .inr ⟨h,v,mem_erase hv hi fun e'=>e (by have:=congrArg Prod.fst e';dsimp only at this;omega)⟩
  ·rw [List.length_eraseIdx,if_pos hil];omega
def mo (A:bE) (R:MR) (i:Nat):MR:=if 2*pc (kv R.sc.prom i) > R.sc.sz then qh A { R with sc:={ R.sc with prom:=kv R.sc.prom i } } else { R with sc:={ R.sc with prom:=kv R.sc.prom i } }
section
variable {A:bE} (HA:bW A) {Λ:bN} {w:World} {br:Nat} {R:MR}
omit HA in
theorem Ok.prom (ho:Ok A R) {i:Nat} (hi:i<5):Ok A { R with sc:={ R.sc with prom:=kv R.sc.prom i } }:=⟨ho.sz,ho.i,ho.st,ho.kn,ho.pp,ho.vt,ho.wv,ho.mt,ho.ac,uN ho.pr hi,ho.lg,ho.lc,ho.nx,ho.sn⟩
include HA
theorem Ok.Fg (ho:Ok A R) {i:Nat} (hi:i<5):Ok A (mo A R i)∧(mo A R i).out.length≤R.out.length+20000∧(mo A R i).sc.i=R.sc.i∧(mo A R i).sc.sz=R.sc.sz:=by
 unfold mo;split
 ·exact (ho.prom hi).lead HA
 ·exact ⟨ho.prom hi,Nat.le_add_right _ _,rfl,rfl⟩
theorem Ls (h:Wk Λ br R w) (ho:Ok A R) {i:Nat} (hi:i<5) (hb:R.out.length≤840000):af Tryz.prog 141 #[.pointer (some ⟨br,0,none⟩),.int .u8 i] w (fun v w'=>v=.tuple #[]∧Wk Λ br (mo A R i) w'∧Kz w w'):=by
 obtain ⟨a,h⟩:=h;refine ah au mixed Tryz.func141 rfl rfl ?_;refine ⟨_,_,h.ri.mem,_,rfl,_,Li w _ i ho.pr hi,?_⟩;rintro _ w1 ⟨rfl,rfl⟩;refine ⟨_,_,_,h.ri.mem,rfl,rfl,fun w2 m2 g2=>?_⟩;have h2:=h.cell (s':={ R.sc with prom:=kv R.sc.prom i }) m2 g2;have k2:=h.ri.kz h.ri.eQ g2;refine ⟨by kernel_rfl,_,_,h2.ri.mem,_,rfl,_,_,h2.ri.mem,_,rfl,_,Lh w2 _ _ (uN ho.pr hi),?_⟩;rintro _ w3 ⟨rfl,rfl⟩;refine aj (fun d=>?_) (fun d=>?_)
 ·have d1:2*pc (kv R.sc.prom i) > R.sc.sz:=of_decide_eq_true d
  have em:mo A R i=qh A { R with sc:={ R.sc with prom:=kv R.sc.prom i } }:=if_pos d1;rw [em];refine ⟨_,V9 HA ⟨_,h2⟩ (ho.prom hi) hb,?_⟩;rintro _ w4 ⟨rfl,h4,k4⟩;exact ⟨rfl,h4,k2.trans k4⟩
 ·have d1:¬ 2*pc (kv R.sc.prom i) > R.sc.sz:=of_decide_eq_false d
  have em:mo A R i={ R with sc:={ R.sc with prom:=kv R.sc.prom i } }:=if_neg d1;rw [em];exact ⟨rfl,⟨_,h2⟩,k2⟩
end
def uP (R:MR):MR:={ eD R with sc:={ (eD R).sc with role:=1 },met:=orM (eD R).eU (eD R).met }
def oG (A:bE) (R:MR):MR:=if R.sc.sz=1∨R.sc.seen≠4294967295 then mo A (uP R) R.sc.i else R
def qi (g:Nat→Option MV) (v:MV):Nat→Option MV:=match g v.slot with
 | none=>upd g v.slot (some v)
 | some o=>if o.b.lt v.b=true then upd g v.slot (some v) else g
section
variable {A:bE} {R:MR}
theorem BP (R:MR):(eD R).sc.sz=R.sc.sz∧(eD R).sc.i=R.sc.i∧(eD R).out=R.out∧(eD R).met=R.met∧(eD R).eU=R.eU:=by
 unfold eD;split
 ·exact ⟨rfl,rfl,rfl,rfl,rfl⟩
 ·exact ⟨rfl,rfl,rfl,rfl,rfl⟩
theorem Ok.raise (ho:Ok A R):Ok A (eD R):=by
 have:=ho.sn;unfold eD;split
 ·exact ho
 ·rename_i h
  exact ⟨ho.sz,ho.i,ho.st,ho.kn,ho.pp,ho.vt,ho.wv,ho.mt,ho.ac,ho.pr,ho.lg,ho.lc,ho.nx,by show R.sc.seen+1≤_;omega,by show R.sc.seen+1≤_;omega,ho.sn.2.2⟩
theorem Ok.NM (ho:Ok A R):Ok A (uP R):=by
 have o:=ho.raise;refine ⟨o.sz,o.i,o.st,o.kn,o.pp,o.vt,o.wv,fun k v h=>?_,o.ac,o.pr,o.lg,o.lc,o.nx,o.sn⟩;have h:orM (eD R).eU (eD R).met k=some v:=h;unfold orM at h;cases hv:(eD R).eU k with
 | none=>rw [hv] at h;exact o.mt k v h
 | some x=>rw [hv] at h;exact o.vt k v (hv.trans h)
end
section
variable {A:bE} (HA:bW A) {Λ:bN} {w:World} {br:Nat} {R:MR}
include HA
theorem Ok.Sz (ho:Ok A R):Ok A (oG A R)∧(oG A R).out.length≤R.out.length+20000∧(oG A R).sc.i=R.sc.i∧(oG A R).sc.sz=R.sc.sz:=by
 unfold oG;obtain ⟨r1,r2,r3,_⟩:=BP R;split
 ·have hi:=ho.i
  have hz:=ho.sz;obtain ⟨h1,h2,h3,h4⟩:=ho.NM.Fg HA (i:=R.sc.i) (by omega);have e:(uP R).out=R.out:=r3;rw [e] at h2;exact ⟨h1,h2,h3.trans r2,h4.trans r1⟩
 ·exact ⟨ho,Nat.le_add_right _ _,rfl,rfl⟩
theorem Wd (h:Wk Λ br R w) (ho:Ok A R) (hb:R.out.length≤840000):af Tryz.prog 89 #[.pointer (some ⟨br,0,none⟩)] w (fun v w'=>v=.tuple #[]∧Wk Λ br (oG A R) w'∧Kz w w'):=by
 refine ah au mixed Tryz.func89 rfl rfl ?_;refine ⟨_,Sj h ho.sn.1,?_⟩;rintro _ w1 ⟨rfl,h1,k1⟩;obtain ⟨r1,r2,r3,r4,r5⟩:=BP R;have hi:=ho.i;have hz:=ho.sz;refine aj (fun d=>?_) (fun d=>?_)
 ·have d1:¬ (R.sc.sz=1∨R.sc.seen≠4294967295):=fun e=>by simp [e] at d
  have em:oG A R=R:=if_neg d1;have er:eD R=R:=if_pos (.inr (by omega));rw [er] at h1;rw [em];exact ⟨rfl,h1,k1⟩
 ·have d1:R.sc.sz=1∨R.sc.seen≠4294967295:=by
   by_cases e:R.sc.sz=1∨R.sc.seen≠4294967295
   ·exact e
   ·simp [e] at d
  have em:oG A R=mo A (uP R) R.sc.i:=if_pos d1;rw [em];obtain ⟨a,h1⟩:=h1;refine ⟨_,_,_,h1.ri.mem,rfl,rfl,fun w2 m2 g2=>?_⟩;have h2:=h1.cell (s':={ (eD R).sc with role:=1 }) m2 g2;have k2:=h1.ri.kz h1.ri.eQ g2;have hne:a.vm≠a.mt:=by have:=h2.ri.sep;simp at this;omega
  refine ⟨by kernel_rfl,_,_,h2.ri.mem,_,rfl,_,_,h2.ri.mem,_,rfl,_,Ff h2.ri.mt h2.ri.vm hne,?_⟩;rintro _ w3 ⟨rfl,hm3,g3⟩;have h3:Wa Λ br (uP R) a w3:=h2.step h2.ri.lZ g3 (h2.ri.Py g3 hm3);have k3:=h2.ri.kz h2.ri.lZ g3;have ec:=Ls HA ⟨_,h3⟩ ho.NM (i:=R.sc.i) (by omega) (by show (eD R).out.length≤_;rw [r3];exact hb);have ei:(uP R).sc.i=R.sc.i:=r2;rw [← ei] at ec;refine ⟨_,_,h3.ri.mem,_,rfl,_,ec,?_⟩;rintro _ w4 ⟨rfl,h4,k4⟩;rw [ei] at h4;exact ⟨rfl,h4,((k1.trans k2).trans k3).trans k4⟩
end
def jV (g:Nat→Option MV) (vs:List MV):Nat→Option MV:=vs.foldl qi g
theorem BQ {g:Nat→Option MV} {v:MV} (h:g v.slot=none):qi g v=upd g v.slot (some v):=by unfold qi;rw [h]
theorem Eh {g:Nat→Option MV} {v o:MV} (h:g v.slot=some o) (hb:o.b.lt v.b=true):qi g v=upd g v.slot (some v):=by unfold qi;rw [h];exact if_pos hb
theorem Gb {g:Nat→Option MV} {v o:MV} (h:g v.slot=some o) (hb:o.b.lt v.b=false):qi g v=g:=by unfold qi;rw [h];exact if_neg (by rw [hb];decide)
def jq (A:bE) (R:MR) (f:Nat×Nat) (b:dh) (vs:List MV):MR:=if R.sc.role≠1∨b≠R.sc.b then R else mo A { R with met:=jV R.met vs } f.2
theorem wE {g:Nat→Option MV} {vs:List MV} {k:Nat} {v:MV} (h:vs[k]? = some v):jV g (vs.take (k+1))=qi (jV g (vs.take k)) v:=by
 unfold jV;rw [List.take_add_one,h,Option.toList_some,List.foldl_append];rfl
theorem Gc {P:Nat→MV→Prop}:∀ (vs:List MV) {g:Nat→Option MV},(∀ k v,g k=some v→P k v)→(∀ v∈vs,P v.slot v)→∀ k v,jV g vs k=some v→P k v
 | [],g,hg,_=>hg
 | x::vs,g,hg,hv=>by
  have:∀ k v,qi g x k=some v→P k v:=by
   cases h:g x.slot with
   | none=>rw [BQ h];exact lU hg (hv x (List.mem_cons_self ..))
   | some o =>
    cases hb:o.b.lt x.b with
    | true=>rw [Eh h hb];exact lU hg (hv x (List.mem_cons_self ..))
    | false=>rw [Gb h hb];exact hg
  exact Gc vs this fun v h=>hv v (List.mem_cons_of_mem _ h)
theorem We {l:List MV} {ps:List (Value×Value)} (_hl:ps.length=l.length) {k:Nat} {x:MV} {p:Value×Value} (hx:l[k]? = some x) (hp:ps[k]? = some p):aO (List.zipWith (fun x p=>jm x p.1 p.2) l ps).flatten (k*20) 20=jm x p.1 p.2:=by
 have h:=jy (f:=fun q:MV×(Value×Value)=>jm q.1 q.2.1 q.2.2) (size:=20) (fun _=>rfl) (l.zip ps) k (x,p) (by rw [List.getElem?_zip_eq_some];exact ⟨hx,hp⟩);rw [← h];congr 1
 rw [List.flatMap_def,List.map_zip_eq_zipWith];rfl
section
variable {A:bE} {R:MR}
theorem Ok.jV (ho:Ok A R) {vs:List MV} (hv:∀ v∈vs,A.gc v.c∧v.slot<60):Ok A { R with met:=jV R.met vs }:=⟨ho.sz,ho.i,ho.st,ho.kn,ho.pp,ho.vt,ho.wv,Gc (P:=fun k (v:MV)=>A.gc v.c∧k<60∧v.slot=k) vs ho.mt fun v h=>⟨(hv v h).1,(hv v h).2,rfl⟩,ho.ac,ho.pr,ho.lg,ho.lc,ho.nx,ho.sn⟩
end
section
variable {A:bE} (HA:bW A) {Λ:bN} {w:World} {br:Nat} {R:MR}
include HA
theorem NN (h:Wk Λ br R w) (ho:Ok A R) (f:Nat×Nat) (hf:f.2<5) (b:dh) {vs:List MV} (hv:∀ v∈vs,A.gc v.c∧v.slot<60) (hvl:vs.length≤1000000) {vv:Value} (hvs:bY w vv vs) (hb:R.out.length≤840000):af Tryz.prog 80 #[.pointer (some ⟨br,0,none⟩),.agg #[.int .u8 f.1,.int .u8 f.2],.agg (bC b).toArray,vv] w (fun v w'=>v=.tuple #[]∧Wk Λ br (jq A R f b vs) w'∧Kz w w'):=by
 have ac8:=hvs;obtain ⟨va,vc,rfl⟩:=hvs.sl;refine ah au mixed Tryz.func80 rfl rfl ?_;intro w1 b1 m1 g1 l1 w2 b2 m2 g2 l2;have m1:=g2.get m1 nofun;have g:=g1.trans g2;have h20:=h.ax g;have h2:=h20;obtain ⟨a,h2⟩:=h2;refine ⟨by kernel_rfl,_,_,h2.ri.mem,_,rfl,aj (fun c=>?_) (fun c=>?_)⟩
 ·have c1:R.sc.role=1:=by simp at c;omega
  refine ⟨_,_,m2,_,rfl,rfl,_,_,h2.ri.mem,_,rfl,rfl,aj (fun d=>?_) (fun d=>?_)⟩
  ·have d1:b≠R.sc.b:=by rintro rfl;simp at d
   have em:jq A R f b vs=R:=if_pos (.inr d1);rw [em];exact ⟨rfl,h20,g.kz⟩
  ·have d1:b=R.sc.b:=by
    have e:b.n=R.sc.b.n∧b.id=R.sc.b.id:=by simp at d;omega
    exact dh.eq e.1 e.2
   have em:jq A R f b vs=mo A { R with met:=jV R.met vs } f.2:=if_neg (by rintro (e | e);exact e c1;exact e d1);rw [em];obtain ⟨ps,hpl,⟨Lt,Lu,hve,YA,afV,hvd⟩,hps⟩:=ac8.kz g.kz;cases hve
   refine ⟨fun q s w3=>∃ (k:Nat),q=vs.length - k∧k≤vs.length∧s=[(0,.pointer (some ⟨br,0,none⟩)),(5,.pointer (some ⟨b1,0,none⟩)),(26,.slice va vs.length vc),(27,.int .i64 vs.length),(28,.int .i64 k)]∧Wk Λ br { R with met:=jV R.met (vs.take k) } w3∧Kz w2 w3,⟨_,_,⟨0,rfl,Nat.zero_le _,rfl,h20,Kz.refl _⟩,rfl,rfl,rfl,rfl,rfl,trivial⟩,?_⟩;rintro q s w3 ⟨k,rfl,hk,rfl,⟨a3,h3⟩,k3⟩;refine aj (fun e=>?_) (fun e=>?_)
   ·have e1:k<vs.length:=by simp at e;omega
    rcases hvd with ⟨_,h0⟩ | ⟨B,off,cs,rfl,hB,hcut⟩
    ·omega
    obtain ⟨x,hx⟩:∃ x,vs[k]? = some x:=⟨vs[k],by simp [e1]⟩;obtain ⟨⟨rv,dv⟩,hp⟩:∃ p,ps[k]? = some p:=⟨ps[k],by simp [hpl,e1]⟩;have hr:=(hps k x _ hx hp).kz k3;obtain ⟨ra,rn,rc,da,dn,dc,er,ed⟩:=hr.sl;dsimp only at er ed;subst er ed;have hB3:=k3 _ (by decide) _ _ hB;refine ⟨⟨by omega,by omega⟩,_,_,hB3,jm x (.slice ra rn rc) (.slice da dn dc),(Fz.elem hcut e1).trans (We hpl hx hp),rfl,fun w4 b4 m4 g4 l4=>⟨_,_,_,m4,rfl,rfl,fun w5 m5 g5=>?_⟩⟩;have tF:GB none w3 w5:=g4.new g5 l4;have h5:=h3.box tF m5 l4;have u5:=h3.p9 l4;obtain ⟨ff,tH,e2',e3'⟩:=h5.ri.mt;refine ⟨by kernel_rfl,_,_,h5.ri.mem,_,rfl,_,_,m5,_,rfl,ff,tH,?_⟩;have hv5:∀ w',Kz w5 w'→nX w' (.agg (jm x (.slice ra rn rc) (.slice da dn dc)).toArray) x:=fun w' kk=>⟨_,_,rfl,(hr.kz tF.kz).kz kk⟩
    rcases jL e3' x.slot with ⟨n1,n2⟩ | ⟨o,v,n1,n2,rv,dv,rfl,hro⟩
    ·rw [n2]
     refine fun w6 b6 m6 g6 l6=>⟨⟨tH.keep (g6.block _ (h5.ri.lt h5.ri.lZ) nofun),g6.get m5 nofun,(h5.ax g6).ri.mem,trivial⟩,⟨_,_,_,m6,rfl,rfl,fun w7 m7 g7=>?_⟩⟩
     have vR:GB none w5 w7:=g6.new g7 l6;have h7:=h5.ax vR;have pF:=vR.get m5 nofun;obtain ⟨f7,p1,p2,p3⟩:=h7.ri.mt;refine ⟨by kernel_rfl,_,_,h7.ri.mem,_,rfl,_,_,pF,_,rfl,_,_,pF,jm x (.slice ra rn rc) (.slice da dn dc),rfl,rfl,f7,p1,fun w8 m8 g8=>?_⟩;have k8:=h7.ri.kz h7.ri.lZ g8;have h8:=h7.step h7.ri.lZ g8 (h7.ri.Py g8 (bS.put (fun _ _ h=>h.kz k8) p2 p3 (hv5 w8 (vR.kz.trans k8)) m8));refine ⟨by omega,_,_,⟨k+1,rfl,by omega,rfl,?_,k3.trans ((tF.kz.trans vR.kz).trans k8)⟩,⟨rfl,rfl,rfl,rfl,rfl,trivial⟩,by omega⟩;rw [wE hx,BQ n1];exact Wk.drop ⟨_,h8⟩ u5
    ·rw [n2]
     obtain ⟨iN,mr,rc',ig,jU,ik,rfl,rfl⟩:=hro.sl;refine fun w6 b6 m6 g6 l6=>⟨⟨tH.keep (g6.block _ (h5.ri.lt h5.ri.lZ) nofun),g6.get m5 nofun,(h5.ax g6).ri.mem,trivial⟩,⟨_,_,_,m6,rfl,rfl,fun w7 m7 g7=>?_⟩⟩
     have vR:GB none w5 w7:=g6.new g7 l6;have pF:=vR.get m5 nofun;refine ⟨_,_,m7,bC o.b,rfl,rfl,_,_,pF,bC x.b,rfl,rfl,_,CB w7 o.b x.b,?_⟩;rintro _ w8 ⟨rfl,g8⟩;have BR:=vR.trans g8;have h8:=h5.ax BR;have pF:=BR.get m5 nofun;refine aj (fun j=>?_) (fun j=>?_)
     ·obtain ⟨f7,p1,p2,p3⟩:=h8.ri.mt
      refine ⟨by kernel_rfl,_,_,h8.ri.mem,_,rfl,_,_,pF,_,rfl,_,_,pF,jm x (.slice ra rn rc) (.slice da dn dc),rfl,rfl,f7,p1,fun w9 m9 g9=>?_⟩;have k9:=h8.ri.kz h8.ri.lZ g9;have h9:=h8.step h8.ri.lZ g9 (h8.ri.Py g9 (bS.put (fun _ _ h=>h.kz k9) p2 p3 (hv5 w9 (BR.kz.trans k9)) m9));refine ⟨by omega,_,_,⟨k+1,rfl,by omega,rfl,?_,k3.trans ((tF.kz.trans BR.kz).trans k9)⟩,⟨rfl,rfl,rfl,rfl,rfl,trivial⟩,by omega⟩;rw [wE hx,Eh n1 j];exact Wk.drop ⟨_,h9⟩ u5
     ·refine ⟨by omega,_,_,⟨k+1,rfl,by omega,rfl,?_,k3.trans (tF.kz.trans BR.kz)⟩,⟨rfl,rfl,rfl,rfl,rfl,trivial⟩,by omega⟩
      rw [wE hx,Gb n1 j];exact Wk.drop ⟨_,h8⟩ u5
   ·have e1:k=vs.length:=by simp at e;omega
    subst e1;rw [List.take_length] at h3;have yX:=k3 _ (by decide) _ _ m1;refine ⟨_,_,yX,_,rfl,_,Ls HA ⟨_,h3⟩ (ho.jV hv) hf hb,?_⟩;rintro _ w4 ⟨rfl,h4,k4⟩;exact ⟨rfl,h4,(g.kz.trans k3).trans k4⟩
 ·have c1:R.sc.role≠1:=by simp at c;omega
  have em:jq A R f b vs=R:=if_pos (.inl c1);rw [em];exact ⟨rfl,h20,g.kz⟩
end
theorem YB {α β:Type} {F:α→β→List Value} {size:Nat} (hF:∀ x y,(F x y).length=size) {l:List α} {ps:List β} {k:Nat} {x:α} {p:β} (hx:l[k]? = some x) (hp:ps[k]? = some p):aO (List.zipWith F l ps).flatten (k*size) size=F x p:=by
 have h:=jy (f:=fun q:α×β=>F q.1 q.2) (size:=size) (fun q=>hF q.1 q.2) (l.zip ps) k (x,p) (by rw [List.getElem?_zip_eq_some];exact ⟨hx,hp⟩);rw [← h];congr 1
 rw [List.flatMap_def,List.map_zip_eq_zipWith];rfl
def uQ (enc:MM→ByteArray) (R:MR) (k:Nat):MR:=match R.props k with
 | some c=>PD enc R k c
 | none=>R
def wF (enc:MM→ByteArray) (R:MR) (g:Nat):MR:=match (R.st.O.getD g (0,[])).2 with
 | []=>R
 | r::_=>nN enc R { bf 9 with r:=r } (gI R.sc.g R.sc.i g R.sc.sz)
def iC (enc:MM→ByteArray) (R:MR) (n:Nat):MR:=(List.range n).foldl (uQ enc) R
def iO (enc:MM→ByteArray) (R:MR) (n:Nat):MR:=(List.range n).foldl (wF enc) R
def q8 (enc:MM→ByteArray) (R:MR):MR:=iO enc (iC enc R R.sc.next) R.st.O.length
theorem yj (enc:MM→ByteArray) (R:MR) (n:Nat):iC enc R (n+1)=uQ enc (iC enc R n) n:=by unfold iC;rw [List.range_succ,List.foldl_append];rfl
theorem yl (enc:MM→ByteArray) (R:MR) (n:Nat):iO enc R (n+1)=wF enc (iO enc R n) n:=by unfold iO;rw [List.range_succ,List.foldl_append];rfl
structure jN (R R':MR) (n:Nat):Prop where
 eq:R'={ R with out:=R'.out }
 len:R'.out.length≤R.out.length+n
theorem jN.snd {R R':MR} {n:Nat} (h:jN R R' n) (enc:MM→ByteArray) (m:MM) {tl:List (Nat×Nat)} (ht:tl.length≤5):jN R (nN enc R' m tl) (n+5):=by
 refine ⟨?_,by rw [jM];have:=h.len;omega⟩;have h1:nN enc R' m tl={ R' with out:=(nN enc R' m tl).out }:=rfl;rw [h1];have:=h.eq;generalize (nN enc R' m tl).out=o;rw [this]
theorem jN.weak {R R':MR} {n m:Nat} (h:jN R R' n) (hm:n≤m):jN R R' m:=⟨h.eq,by have:=h.len;omega⟩
theorem jN.f {R R':MR} {n:Nat} (h:jN R R' n):R'.sc=R.sc∧R'.props=R.props∧R'.st=R.st:=by rw [h.eq];exact ⟨rfl,rfl,rfl⟩
theorem jN.ok {A:bE} {R R':MR} {n:Nat} (h:jN R R' n) (o:Ok A R):Ok A R':=by
 rw [h.eq];exact ⟨o.sz,o.i,o.st,o.kn,o.pp,o.vt,o.wv,o.mt,o.ac,o.pr,o.lg,o.lc,o.nx,o.sn⟩
theorem vS (enc:MM→ByteArray) (R:MR) (hz:R.sc.sz≤5):∀ n,jN R (iC enc R n) (5*n)
 | 0=>⟨rfl,Nat.le_refl _⟩
 | n+1=>by
  have ih:=vS enc R hz n;rw [yj];unfold uQ;split
  ·have:=iM (iC enc R n).sc.g (iC enc R n).sc.i (iC enc R n).sc.g (iC enc R n).sc.sz
   rw [ih.f.1] at this;exact ih.snd _ _ (by rw [ih.f.1];omega)
  ·exact ih.weak (by omega)
theorem vU (enc:MM→ByteArray) (R:MR) (hz:R.sc.sz≤5):∀ n,jN R (iO enc R n) (5*n)
 | 0=>⟨rfl,Nat.le_refl _⟩
 | n+1=>by
  have ih:=vU enc R hz n;rw [yl];unfold wF;split
  ·exact ih.weak (by omega)
  ·have:=iM (iO enc R n).sc.g (iO enc R n).sc.i n (iO enc R n).sc.sz
   rw [ih.f.1] at this;exact ih.snd _ _ (by rw [ih.f.1];omega)
theorem SB {w:World} {vO:Value} {O:List (Int×List Rg)} (h:∃ qs:List Value,qs.length=O.length∧Fz w 62 2 vO O.length (List.zipWith (fun (o:Int×List Rg) q=>[Value.int .u32 o.1,q]) O qs).flatten∧∀ (i:Nat) (o:Int×List Rg) (q:Value),O[i]? = some o→qs[i]? = some q→tC w q o.2) {p:Nat} (hp:p<O.length):∃ b off cap cs n q,vO=.slice (some ⟨b,off,none⟩) O.length cap∧O.length≤cap∧w.heap[b]? = some (.cells cs 62)∧aO cs.toList (off+p*2) 2=[.int .u32 n,q]∧tC w q (O.getD p (0,[])).2:=by
 obtain ⟨qs,h1,⟨a,c,rfl,h3,h4,h5⟩,h6⟩:=h;rcases h5 with ⟨_,h0⟩ | ⟨b,off,cs,rfl,hb,hcut⟩
 ·omega
 obtain ⟨o,ho⟩:∃ o,O[p]? = some o:=⟨O[p],by simp [hp]⟩;obtain ⟨q,hq⟩:∃ q,qs[p]? = some q:=⟨qs[p],by simp [h1,hp]⟩;refine ⟨b,off,c,cs,o.1,q,rfl,h3,hb,(Fz.elem hcut hp).trans (YB (F:=fun (o:Int×List Rg) q=>[Value.int .u32 o.1,q]) (fun _ _=>rfl) ho hq),?_⟩;rw [List.getD_eq_getElem?_getD,ho];exact h6 p o q ho hq
section
variable {A:bE} (HA:bW A) {Λ:bN} {w:World} {br:Nat} {R:MR}
include HA
theorem Gf (h:Wk Λ br R w) (ho:Ok A R) (hb:R.out.length≤880000):af Tryz.prog 92 #[.pointer (some ⟨br,0,none⟩)] w (fun v w'=>v=.tuple #[]∧Wk Λ br (q8 A.enc R) w'∧Kz w w'):=by
 have h0:=h;obtain ⟨a,h⟩:=h;have hz:=ho.sz;have hnx:=ho.nx;have hol:=HA.ol _ ho.st;refine ah au mixed Tryz.func92 rfl rfl ?_;refine ⟨_,_,h.ri.mem,_,rfl,?_⟩;refine ⟨fun n s w'=>∃ (k:Nat),n=R.sc.next - k∧k≤R.sc.next∧s=[(0,.pointer (some ⟨br,0,none⟩)),(10,.int .u32 R.sc.next),(11,.int .u32 k)]∧Wk Λ br (iC A.enc R k) w'∧Kz w w',⟨_,_,⟨0,rfl,Nat.zero_le _,rfl,h0,Kz.refl _⟩,rfl,rfl,rfl,trivial⟩,?_⟩;rintro n s w1 ⟨k,rfl,hk,rfl,h10,k1⟩;have h1:=h10;obtain ⟨a1,h1⟩:=h1;have O1:=vS A.enc R hz k;obtain ⟨f1,f2,f3⟩:=O1.f;have lo1:=O1.len;refine aj (fun c=>?_) (fun c=>?_)
 ·have c1:k<R.sc.next:=by simp at c;omega
  obtain ⟨f,e1,e2,e3⟩:=h1.ri.pp;refine ⟨_,_,h1.ri.mem,_,rfl,f,e1,fun w2 b2 m2 g2 l2=>?_⟩;rcases jL e3 k with ⟨n1,n2⟩ | ⟨y,v,n1,n2,rv,dv,rfl,hr⟩
  ·rw [n2]
   refine ⟨_,_,_,m2,rfl,rfl,fun w3 m3 g3=>?_⟩;have g13:GB none w1 w3:=g2.new g3 l2;refine ⟨by omega,_,_,⟨k+1,rfl,by omega,rfl,?_,k1.trans g13.kz⟩,⟨rfl,rfl,rfl,trivial⟩,by omega⟩;rw [yj];unfold uQ;rw [n1];exact h10.ax g13
  ·rw [n2]
   obtain ⟨ra,rn,rc,da,dn,dc,rfl,rfl⟩:=hr.sl;refine ⟨_,_,_,m2,rfl,rfl,fun w3 m3 g3=>?_⟩;have g13:GB none w1 w3:=g2.new g3 l2;refine ⟨_,_,m3,cK y (.slice ra rn rc) (.slice da dn dc),rfl,rfl,_,Uv HA.jd (h10.ax g13) (by rw [f1];exact hz) (c:=y) ⟨_,_,rfl,hr.kz g13.kz⟩ (by omega),?_⟩;rintro _ w4 ⟨rfl,h4,k4⟩;refine ⟨by omega,_,_,⟨k+1,rfl,by omega,rfl,?_,(k1.trans g13.kz).trans k4⟩,⟨rfl,rfl,rfl,trivial⟩,by omega⟩;rw [yj];unfold uQ;rw [n1];exact h4
 have c1:k=R.sc.next:=by simp at c;omega
 subst c1;have o1:Ok A (iC A.enc R R.sc.next):=O1.ok ho;have eR:q8 A.enc R=iO A.enc (iC A.enc R R.sc.next) (iC A.enc R R.sc.next).st.O.length:=by unfold q8;rw [f3]
 have afW:(iC A.enc R R.sc.next).st.O.length≤200:=by rw [f3];exact hol
 have hz1:(iC A.enc R R.sc.next).sc.sz≤5:=by rw [f1];exact hz
 rw [eR];generalize iC A.enc R R.sc.next=R1 at *;obtain ⟨vm,wm,kn,mt,pp,ac,lg,ob,sT,sM,sD,sO,sI⟩:=a1;have hO:=h1.ri.st.O;obtain ⟨oa,oc,rfl⟩:∃ oa oc,sO=.slice oa R1.st.O.length oc:=by obtain ⟨_,_,⟨a,c,h,_⟩,_⟩:=hO;exact ⟨a,c,h⟩
 refine ⟨_,_,h1.ri.mem,_,rfl,?_⟩;refine ⟨fun n s w'=>∃ (k:Nat),n=R1.st.O.length - k∧k≤R1.st.O.length∧s=[(0,.pointer (some ⟨br,0,none⟩)),(33,.slice oa R1.st.O.length oc),(34,.int .i64 R1.st.O.length),(35,.int .i64 k)]∧Wk Λ br (iO A.enc R1 k) w'∧Kz w1 w',⟨_,_,⟨0,rfl,Nat.zero_le _,rfl,h10,Kz.refl _⟩,rfl,rfl,rfl,rfl,trivial⟩,?_⟩;rintro n s w2 ⟨k,rfl,hk,rfl,h2,k2⟩;have O2:=vU A.enc R1 hz1 k;obtain ⟨q1,q2,q3⟩:=O2.f;have lo2:=O2.len;refine aj (fun d=>?_) (fun d=>?_)
 ·have d1:k<R1.st.O.length:=by simp at d;omega
  obtain ⟨B,off,cap,cs,nn,q,ee,hcap,hB,hcut,hQ⟩:=SB hO d1;cases ee
  have UB:=hQ.kz k2;obtain ⟨qa,qn,qc,rfl⟩:∃ qa qn qc,q=.slice qa qn qc:=by obtain ⟨_,_,⟨a,c,h,_⟩,_⟩:=hQ;exact ⟨a,_,c,h⟩
  refine ⟨⟨by omega,by omega⟩,_,_,k2 _ (by decide) _ _ hB,[.int .u32 nn,.slice qa qn qc],hcut,rfl,fun w3 b3 m3 g3 l3=>⟨_,_,_,m3,rfl,rfl,fun w4 m4 g4=>?_⟩⟩;have g24:GB none w2 w4:=g3.new g4 l3;have h4:=h2.ax g24;refine ⟨_,_,m4,_,rfl,?_⟩;cases hl:(R1.st.O.getD k (0,[])).2 with
  | nil =>
   rw [hl] at UB;obtain ⟨_,_,⟨_,_,he,_⟩,_⟩:=UB;cases he
   refine ⟨by omega,_,_,⟨k+1,rfl,by omega,rfl,?_,k2.trans g24.kz⟩,⟨rfl,rfl,rfl,rfl,trivial⟩,by omega⟩;rw [yl];unfold wF;rw [q3,hl];exact h4
  | cons r rs =>
   rw [hl] at UB;obtain ⟨b,o,qj,cq,rv,dv,he,hqc,hbq,hcq,hr⟩:=UB.hd;cases he
   have e2:iO A.enc R1 (k+1)=nN A.enc (iO A.enc R1 k) { bf 9 with r:=r } (gI (iO A.enc R1 k).sc.g (iO A.enc R1 k).sc.i k (iO A.enc R1 k).sc.sz):=by
    rw [yl];unfold wF;rw [q3,hl]
   refine aj (fun e=>?_) (fun e=>?_)
   ·have YC:=g24.get hbq nofun
    refine ⟨by kernel_rfl,_,_,m4,_,rfl,⟨by omega,by omega⟩,_,_,YC,dN r rv dv,hcq,rfl,.inl ⟨by omega,_,zV h4 k (by rw [q1];exact hz1),?_⟩⟩;rintro v w5 ⟨hv,g5⟩;have hol:=iM (iO A.enc R1 k).sc.g (iO A.enc R1 k).sc.i k (iO A.enc R1 k).sc.sz;rw [q1] at hol;refine ⟨⟨g5.get YC nofun,g5.get m4 nofun,trivial⟩,_,mR HA.jd (h4.ax g5) (m:={ bf 9 with r:=r }) ⟨_,_,_,_,_,rfl,aP.zero _,bY.zero _,(hr.kz g24.kz).kz g5.kz⟩ hv (by rw [q1];omega),?_⟩;rintro _ w6 ⟨rfl,h6,k6⟩;refine ⟨by omega,_,_,⟨k+1,rfl,by omega,rfl,?_,((k2.trans g24.kz).trans g5.kz).trans k6⟩,⟨rfl,rfl,rfl,rfl,trivial⟩,by omega⟩;rw [e2];exact h6
   ·exfalso;simp at e
 ·have d1:k=R1.st.O.length:=by simp at d;omega
  subst d1;exact ⟨rfl,h2,k1.trans k2⟩
end
def bL (A:bE) (R:MR):MR:=if R.sc.role=0 then oG A R else R
def fJ (A:bE) (R:MR):MR:=nN A.enc R { bf 3 with b:=R.sc.b } (gI R.sc.g R.sc.i R.sc.g R.sc.sz)
def ym (A:bE) (R:MR):MR:=if R.sc.role=0 then R else if R.sc.role=2 then q8 A.enc (fJ A R) else fJ A R
def mD (A:bE) (R:MR):MR:=ym A (bL A R)
theorem DU {n:Nat} (h:((n:Int) == 2)=true):n=2:=by simp at h;omega
theorem KU {n:Nat} (h:((n:Int) == 2)=false):¬ n=2:=by simp at h;omega
section
variable {A:bE} (HA:bW A) {Λ:bN} {w:World} {br:Nat} {R:MR}
include HA
theorem Ok.bL (ho:Ok A R):Ok A (bL A R)∧(bL A R).out.length≤R.out.length+20000∧(bL A R).sc.i=R.sc.i∧(bL A R).sc.sz=R.sc.sz:=by
 unfold Go.Proofs.YtignemioillaiabGreat.bL;split
 ·exact ho.Sz HA
 ·exact ⟨ho,Nat.le_add_right _ _,rfl,rfl⟩
theorem Ok.ym (ho:Ok A R):Ok A (ym A R):=by
 unfold Go.Proofs.YtignemioillaiabGreat.ym;split
 ·exact ho
 ·have o2:Ok A (fJ A R):=ho.snd _ _ _
  split
  ·have O1:=vS A.enc (fJ A R) ho.sz (fJ A R).sc.next
   have o3:=O1.ok o2;exact (vU A.enc _ o3.sz _).ok o3
  ·exact o2
theorem Ok.tick (ho:Ok A R):Ok A (mD A R):=(ho.bL HA).1.ym HA
theorem Wh (h:Wk Λ br R w) (ho:Ok A R) (hb:R.out.length≤840000):af Tryz.prog 57 #[.pointer (some ⟨br,0,none⟩)] w (fun v w'=>v=.tuple #[]∧Wk Λ br (mD A R) w'∧Kz w w'):=by
 have h0:=h;obtain ⟨a,h⟩:=h;obtain ⟨o1,l1,_,_⟩:=ho.bL HA;refine ah au mixed Tryz.func57 rfl rfl ?_;refine ⟨_,_,h.ri.mem,_,rfl,aj (fun c=>?_) (fun c=>?_)⟩
 ·have c1:R.sc.role=0:=by simp at c;omega
  have e1:bL A R=oG A R:=if_pos c1;refine ⟨_,Wd HA h0 ho hb,?_⟩;rintro _ w1 ⟨rfl,h1,k1⟩;rw [← e1] at h1;obtain ⟨a1,h1⟩:=h1;refine ⟨_,_,h1.ri.mem,_,rfl,aj (fun d=>?_) (fun d=>?_)⟩
  ·have d1:(bL A R).sc.role=0:=by simp at d;omega
   have em:mD A R=bL A R:=if_pos d1;rw [em];exact ⟨rfl,⟨_,h1⟩,k1⟩
  have d1:¬ (bL A R).sc.role=0:=by simp at d;omega
  refine ⟨by kernel_rfl,_,_,h1.ri.mem,_,rfl,rfl,_,yf ⟨_,h1⟩ o1.sz,?_⟩;rintro v w2 ⟨hv,g2⟩;have hol:=iM (bL A R).sc.g (bL A R).sc.i (bL A R).sc.g (bL A R).sc.sz;have hz:=o1.sz;refine ⟨⟨(h1.ax g2).ri.mem,trivial⟩,_,mR HA.jd (Wk.ax ⟨_,h1⟩ g2) (m:={ bf 3 with b:=(bL A R).sc.b }) ⟨_,_,_,_,_,rfl,aP.zero _,bY.zero _,aP.zero _⟩ hv (by omega),?_⟩;rintro _ w3 ⟨rfl,h3,k3⟩;have kk:=(k1.trans g2.kz).trans k3;have PR:Wk Λ br (fJ A (bL A R)) w3:=h3;obtain ⟨a3,h3⟩:=h3;refine ⟨_,_,h3.ri.mem,_,rfl,aj (fun e=>?_) (fun e=>?_)⟩
  ·have tH:(bL A R).sc.role=2:=DU e
   have em:mD A R=q8 A.enc (fJ A (bL A R)):=(if_neg d1).trans (if_pos tH);rw [em];refine ⟨_,Gf HA PR (o1.snd _ _ _) (by unfold fJ;rw [jM];omega),?_⟩;rintro _ w4 ⟨rfl,h4,k4⟩;exact ⟨rfl,h4,kk.trans k4⟩
  ·have tH:¬ (bL A R).sc.role=2:=KU e
   have em:mD A R=fJ A (bL A R):=(if_neg d1).trans (if_neg tH);rw [em];exact ⟨rfl,PR,kk⟩
 ·have c1:¬ R.sc.role=0:=by simp at c;omega
  have e1:bL A R=R:=if_neg c1;have h1:=h0;rw [← e1] at h1;have k1:=Kz.refl w;obtain ⟨a1,h1⟩:=h1;refine ⟨_,_,h1.ri.mem,_,rfl,aj (fun d=>?_) (fun d=>?_)⟩
  ·have d1:(bL A R).sc.role=0:=by simp at d;omega
   have em:mD A R=bL A R:=if_pos d1;rw [em];exact ⟨rfl,⟨_,h1⟩,k1⟩
  have d1:¬ (bL A R).sc.role=0:=by simp at d;omega
  refine ⟨by kernel_rfl,_,_,h1.ri.mem,_,rfl,rfl,_,yf ⟨_,h1⟩ o1.sz,?_⟩;rintro v w2 ⟨hv,g2⟩;have hol:=iM (bL A R).sc.g (bL A R).sc.i (bL A R).sc.g (bL A R).sc.sz;have hz:=o1.sz;refine ⟨⟨(h1.ax g2).ri.mem,trivial⟩,_,mR HA.jd (Wk.ax ⟨_,h1⟩ g2) (m:={ bf 3 with b:=(bL A R).sc.b }) ⟨_,_,_,_,_,rfl,aP.zero _,bY.zero _,aP.zero _⟩ hv (by omega),?_⟩;rintro _ w3 ⟨rfl,h3,k3⟩;have kk:=(k1.trans g2.kz).trans k3;have PR:Wk Λ br (fJ A (bL A R)) w3:=h3;obtain ⟨a3,h3⟩:=h3;refine ⟨_,_,h3.ri.mem,_,rfl,aj (fun e=>?_) (fun e=>?_)⟩
  ·have tH:(bL A R).sc.role=2:=DU e
   have em:mD A R=q8 A.enc (fJ A (bL A R)):=(if_neg d1).trans (if_pos tH);rw [em];refine ⟨_,Gf HA PR (o1.snd _ _ _) (by unfold fJ;rw [jM];omega),?_⟩;rintro _ w4 ⟨rfl,h4,k4⟩;exact ⟨rfl,h4,kk.trans k4⟩
  ·have tH:¬ (bL A R).sc.role=2:=KU e
   have em:mD A R=fJ A (bL A R):=(if_neg d1).trans (if_neg tH);rw [em];exact ⟨rfl,PR,kk⟩
end
def nY (R:MR):MR:={ R with sc:={ R.sc with wb:=R.sc.b },jS:=orM R.eU R.jS }
def mStart (A:bE) (R:MR):MR:={ fH R with known:=fun _=>none,eU:=orM R.jS fun _=>none,sc:={ (fH R).sc with b:=R.sc.wb,seen:=R.sc.wb.n },log:=[],st:=A.bg R.sc.g R.sc.gs }
section
variable {A:bE} {Λ:bN} {w:World} {br:Nat} {R:MR}
theorem PS {P:Nat→MV→Prop} {f g:Nat→Option MV} (hf:∀ k v,f k=some v→P k v) (hg:∀ k v,g k=some v→P k v):∀ k v,orM f g k=some v→P k v:=by
 intro k v h;unfold orM at h;cases hv:f k with
 | none=>rw [hv] at h;exact hg k v h
 | some x=>rw [hv] at h;exact hf k v (hv.trans h)
theorem Ok.write (ho:Ok A R):Ok A (nY R):=⟨ho.sz,ho.i,ho.st,ho.kn,ho.pp,ho.vt,PS ho.vt ho.wv,ho.mt,ho.ac,ho.pr,ho.lg,ho.lc,ho.nx,ho.sn.1,ho.sn.2.1,ho.sn.2.1⟩
end
section
variable {A:bE} (HA:bW A) {Λ:bN} {w:World} {br:Nat} {R:MR}
include HA
theorem Ok.start (ho:Ok A R):Ok A (mStart A R):=⟨ho.sz,ho.i,HA.NC _ _ ho.i.2.2.2 ho.i.2.1 ho.i.2.2.1,fun _ _ h=>(by cases h),fun _ _ h=>(by cases h),PS ho.wv (fun _ _ h=>(by cases h)),ho.wv,fun _ _ h=>(by cases h),fun _ _ h=>(by cases h),Nat.zero_lt_succ _,Nat.zero_le _,fun _ h=>(by cases h),ho.nx,ho.sn.2.2,ho.sn.2.2,ho.sn.2.2⟩
theorem Jc (h:Wk Λ br R w) (hg:R.sc.g<R.sc.gs) (hn:R.sc.gs≤4):af Tryz.prog 88 #[.pointer (some ⟨br,0,none⟩)] w (fun v w'=>v=.tuple #[]∧Wk Λ br (mStart A R) w'∧Kz w w'):=by
 refine ah au mixed Tryz.func88 rfl rfl ?_;refine ⟨_,Cz br R Λ w h,?_⟩;rintro _ w1 ⟨rfl,⟨a,h1⟩,k1⟩;have eS:mStart A R={ fH R with known:=fun _=>none,eU:=orM (fH R).jS fun _=>none,sc:={ (fH R).sc with b:=(fH R).sc.wb,seen:=(fH R).sc.wb.n },log:=[],st:=A.bg (fH R).sc.g (fH R).sc.gs }:=rfl;have hg:(fH R).sc.g<(fH R).sc.gs:=hg;have hn:(fH R).sc.gs≤4:=hn;rw [eS];generalize fH R=R1 at *;obtain ⟨vm,wm,kn,mt,pp,ac,lg,ob,sT,sM,sD,sO,sI⟩:=a;obtain ⟨f,e1,_⟩:=h1.ri.kn;refine ⟨_,_,h1.ri.mem,_,rfl,f,e1,fun w2 m2 g2=>?_⟩;have h2:Wa Λ br { R1 with known:=fun _=>none } ⟨vm,wm,kn,mt,pp,ac,lg,ob,sT,sM,sD,sO,sI⟩ w2:=h1.step h1.ri.uI g2 (h1.ri.C9 g2 (bS.none m2));have k2:=k1.trans (h1.ri.kz h1.ri.uI g2);obtain ⟨f,e1,_⟩:=h2.ri.vm;refine ⟨_,_,h2.ri.mem,_,rfl,f,e1,fun w3 m3 g3=>?_⟩;have h3:Wa Λ br { R1 with known:=fun _=>none,eU:=fun _=>none } ⟨vm,wm,kn,mt,pp,ac,lg,ob,sT,sM,sD,sO,sI⟩ w3:=h2.step h2.ri.uH g3 (h2.ri.Yp g3 (bS.none m3));have k3:=k2.trans (h2.ri.kz h2.ri.uH g3);have hne:wm≠vm:=by have:=h3.ri.sep;simp at this;omega
 refine ⟨by kernel_rfl,_,_,h3.ri.mem,_,rfl,_,_,h3.ri.mem,_,rfl,_,Ff h3.ri.vm h3.ri.wm hne,?_⟩;rintro _ w4 ⟨rfl,hm4,g4⟩;have h4:Wa Λ br { R1 with known:=fun _=>none,eU:=orM R1.jS fun _=>none } ⟨vm,wm,kn,mt,pp,ac,lg,ob,sT,sM,sD,sO,sI⟩ w4:=h3.step h3.ri.uH g4 (h3.ri.Yp g4 hm4);have k4:=k3.trans (h3.ri.kz h3.ri.uH g4);refine ⟨_,_,h4.ri.mem,_,rfl,rfl,_,_,_,h4.ri.mem,rfl,rfl,fun w5 m5 g5=>?_⟩;have h5:Wa Λ br { R1 with known:=fun _=>none,eU:=orM R1.jS fun _=>none,sc:={ R1.sc with b:=R1.sc.wb } } ⟨vm,wm,kn,mt,pp,ac,lg,ob,sT,sM,sD,sO,sI⟩ w5:=h4.cell (s':={ R1.sc with b:=R1.sc.wb }) m5 g5;have k5:=k4.trans (h4.ri.kz h4.ri.eQ g5);refine ⟨_,_,h5.ri.mem,_,rfl,_,_,_,h5.ri.mem,rfl,rfl,fun w6 m6 g6=>?_⟩;have h6:Wa Λ br { R1 with known:=fun _=>none,eU:=orM R1.jS fun _=>none,sc:={ R1.sc with b:=R1.sc.wb,seen:=R1.sc.wb.n } } ⟨vm,wm,kn,mt,pp,ac,lg,ob,sT,sM,sD,sO,sI⟩ w6:=h5.cell (s':={ R1.sc with b:=R1.sc.wb,seen:=R1.sc.wb.n }) m6 g6;have k6:=k5.trans (h5.ri.kz h5.ri.eQ g6);refine ⟨_,_,_,h6.ri.mem,rfl,rfl,fun w7 m7 g7=>?_⟩;obtain ⟨h7,k7⟩:=h6.lg' (lv:=.slice none 0 0) (ls:=[]) (GB.refl _ _) ⟨[],rfl,eG _ _ _,fun i c p h=>(by simp at h)⟩ nofun m7 g7;have k7:=k6.trans k7;have h7:Wa Λ br { R1 with known:=fun _=>none,eU:=orM R1.jS fun _=>none,sc:={ R1.sc with b:=R1.sc.wb,seen:=R1.sc.wb.n },log:=[] } ⟨vm,wm,kn,mt,pp,ac,.slice none 0 0,ob,sT,sM,sD,sO,sI⟩ w7:=h7;refine ⟨by kernel_rfl,_,_,h7.ri.mem,_,rfl,.inl ⟨(fun (n:Nat) (h:n≤4)=>(by omega : -9223372036854775808≤(n:Int)∧(n:Int)≤9223372036854775807)) R1.sc.g (by omega),_,_,h7.ri.mem,_,rfl,_,HA.beg w7 R1.sc.g R1.sc.gs hg hn,?_⟩⟩;rintro _ w8 ⟨T,M,D,O,I,e,rfl,hs,g8⟩;obtain ⟨ta,tn,tc,ma,mn,mc,da,dn,dc,oa,on,oc,ia,il,ic,rfl,rfl,rfl,rfl,rfl⟩:=(hs _ fun _ _ _=>rfl).sl;have h8:=h7.ax g8;refine ⟨_,_,_,h8.ri.mem,rfl,rfl,fun w9 m9 g9=>?_⟩;have hbr:br<w7.heap.size:=ae h7.ri.mem;obtain ⟨h9,k9⟩:=h8.st' (hs w9 fun x hx hx3=>g9.block x hx3 fun e=>by cases e;omega) m9 g9;exact ⟨rfl,⟨_,h9⟩,(k7.trans g8.kz).trans k9⟩
end
end
end Go.Proofs.YtignemioillaiabGreat
