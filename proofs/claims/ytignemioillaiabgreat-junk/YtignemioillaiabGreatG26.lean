/- A replica at work (21): lead. -/
import Derived.Test.YtignemioillaiabGreatG25
namespace Go.Proofs.YtignemioillaiabGreat
set_option maxHeartbeats 8000000
set_option maxRecDepth 100000
section
open Go Go.Conc
theorem mi.nodup {w:World} {it m:Nat} {l todo:List (Int×Value)} {cur:Option (Int×Value)} (h:mi w it m l todo cur):(l.map Prod.fst).Nodup:=by
 obtain ⟨_,_,_,_,_,_,_,_,_,_,_,_,_,h,_⟩:=h;exact h
theorem mi.it {w:World} {it m:Nat} {l todo:List (Int×Value)} {cur:Option (Int×Value)} (h:mi w it m l todo cur):∃ m' a b c,w.heap[it]? = some (.mapIter m' a b c):=by
 obtain ⟨_,_,_,_,_,_,_,_,_,_,_,h,_⟩:=h;exact ⟨_,_,_,_,h⟩
theorem bR.walk {α:Type} {rel:World->Value->α->Prop} {w:World} {m:Nat} {g:Nat->Option α} (hg:bR rel w m g):∃ l,kT w m l/\((l.map Prod.fst).Nodup->(∀ p∈l,∃ (k:Nat) (d:α),p.1=k/\g k=some d/\rel w p.2 d)/\∀ k d,g k=some d->∃ v,((k:Int),v)∈l/\rel w v d):=by
 obtain ⟨f,⟨l,hl,hlf⟩,e2,e3⟩:=hg;refine ⟨l,hl,λ hn=>⟨?_,?_⟩⟩
 ·intro p hp
  have h1:f p.1=some p.2:=by rw [<- hlf];exact (vK hn).2 hp
  obtain ⟨k,hk⟩:∃ k:Nat,p.1=k:=by
   rcases (by omega:p.1<0\/0<=p.1) with h0 | h0
   ·rw [e2 _ h0] at h1;cases h1
   ·exact ⟨p.1.toNat,by omega⟩
  rw [hk] at h1;rcases jM e3 k with ⟨n1,n2⟩ | ⟨x,v,n1,n2,n3⟩
  ·rw [n2] at h1;cases h1
  ·rw [n2] at h1;cases h1;exact ⟨k,x,hk,n1,n3⟩
 ·intro k d nI
  rcases jM e3 k with ⟨n1,n2⟩ | ⟨x,v,n1,n2,n3⟩
  ·rw [n1] at nI;cases nI
  ·rw [n1] at nI;cases nI;exact ⟨v,(vK hn).1 (by rw [hlf];exact n2),n3⟩
theorem KR {A:aT} {n s:Nat} {R:MR} (h:¬ s<R.sc.next):eD A (n+1) s R=R:=by unfold eD;rw [if_neg h]
theorem P7 {A:aT} {n s:Nat} {R:MR} (h:s<R.sc.next):eD A (n+1) s R=eD A n (s+1) (if (R.known s).isSome=true then R else gY A R s (((R.met s).map MV.c).getD nW)):=by rw [eD,if_pos h]
section
variable {A:aT} (HA:bK A) {Λ:bU} {w:World} {br:Nat} {R:MR}
include HA
theorem Wv (h:Wk Λ br R w) (ho:Ok A R) (hb:R.out.length<=840000):af Tryz.prog 184 #[Ptt br] w (λ v w'=>v=.tuple #[]/\Wk Λ br (nA A R) w'/\Kz w w'):=by
 obtain ⟨a,h⟩:=h;obtain ⟨vm,wm,kn,mt,pp,ac,lg,ob,sT,sM,sD,sO,sI⟩:=a;obtain ⟨la,lc,rfl⟩:∃ la lc,lg=.slice la R.log.length lc:=by obtain ⟨_,_,h,_⟩:=h.ri.lg;exact ae h
 have UO:=ho.lg;refine aj ah mixed Tryz.func184 rfl rfl ?_;refine ⟨_,_,_,h.ri.mem,rfl,rfl,λ w1 m1 g1=>?_⟩;have h1:=h.cell (s':={ R.sc with role:=2 }) m1 g1;refine ⟨_,_,h1.ri.mem,_,rfl,.inl ⟨by omega,_,_,_,h1.ri.mem,rfl,rfl,λ w2 m2 g2=>?_⟩⟩;have h2:=h1.cell (s':={ R.sc with role:=2,next:=R.log.length }) m2 g2;have k2:=(h.ri.kz h.ri.iX g1).trans (h1.ri.kz h1.ri.iX g2);obtain ⟨l,hl,hw⟩:=h2.ri.mt.walk;refine ⟨_,_,h2.ri.mem,_,rfl,l,hl,λ w3 it i3 g3 l3=>?_⟩;obtain ⟨hm1,hm2⟩:=hw i3.nodup;have h3:=h2.ax g3;have u3:=h2.qf l3;have n3:¬ Own br ⟨vm,wm,kn,mt,pp,ac,.slice la R.log.length lc,ob,sT,sM,sD,sO,sI⟩ it:=λ e=>by have:=h2.ri.lt e;omega
 refine ⟨λ n s w'=>∃ (todo:List (Int×Value)) (cur:Option (Int×Value)) (x:Nat),n=todo.length/\s=[(0,Ptt br),(22,Ptt it)]/\mi w' it mt l todo cur/\Wa Λ br { R with sc:={ R.sc with role:=2,next:=x } } ⟨vm,wm,kn,mt,pp,ac,.slice la R.log.length lc,ob,sT,sM,sD,sO,sI⟩ w'/\Kz w w'/\R.log.length<=x/\x<=60/\(∀ k v,R.met k=some v->k+1<=x\/∃ v',((k:Int),v')∈todo)/\(x=R.log.length\/∃ k v,R.met k=some v/\x=k+1)/\∀ p∈todo,p∈l,⟨_,_,⟨l,none,R.log.length,rfl,rfl,i3,h3,k2.trans g3.kz,Nat.le_refl _,UO,λ k v hk=>.inr (by obtain ⟨v',h,_⟩:=hm2 k v hk;exact ⟨v',h⟩),.inl rfl,λ _ h=>h⟩,rfl,rfl,trivial⟩,?_⟩;rintro n s w4 ⟨todo,cur,x,rfl,rfl,i4,h4,k4,hx1,hx2,hx3,hx4,hsub⟩;refine ⟨mt,l,todo,cur,i4,λ e0=>?_,?_⟩
 ·subst e0
  have hx:iG R.met R.log.length=x:=Td (λ k v hk=>(ho.mt k v hk).2.1) hx1 (λ k v hk=>(hx3 k v hk).elim id (λ h=>by obtain ⟨_,h⟩:=h;cases h)) hx4;have eL:nA A R={ eD A 61 R.log.length { R with sc:={ R.sc with role:=2,next:=x } } with met:=λ _=>none }:=by unfold nA;rw [hx]
  have oL:=ho.HZ;rw [hx] at oL;refine ⟨_,_,h4.ri.mem,_,rfl,.inl ⟨by omega,?_⟩⟩;refine ⟨λ n s w'=>∃ (k:Nat) (R':MR),eD A 61 R.log.length { R with sc:={ R.sc with role:=2,next:=x } }=eD A n k R'/\n+k=61+R.log.length/\k<=60/\s=[(0,Ptt br),(3,.int .u32 k)]/\Wk Λ br R' w'/\Ok A R'/\Kz w w'/\R'.out.length<=R.out.length+315*k,⟨_,_,⟨R.log.length,_,rfl,rfl,UO,rfl,⟨_,h4⟩,oL,k4,Nat.le_add_right _ _⟩,rfl,rfl,trivial⟩,?_⟩;rintro n s w5 ⟨k,R',em,en,hk,rfl,⟨a,h5⟩,o5,k5,hb5⟩;obtain ⟨n,rfl⟩:∃ m,n=m+1:=⟨n - 1,by omega⟩;have hnx:=o5.nx;refine ⟨_,_,h5.ri.mem,_,rfl,au (λ c=>?_) (λ c=>?_)⟩
  ·have c1:k<R'.sc.next:=by simp at c;omega
   have vS:=em.trans (P7 c1);obtain ⟨f,e1,e2,e3⟩:=h5.ri.kn;refine ⟨_,_,h5.ri.mem,_,rfl,f,e1,λ w6 b6 m6 g6 l6=>?_⟩;rcases jM e3 k with ⟨n1,n2⟩ | ⟨y,v,n1,n2,rv,dv,rfl,hr⟩
   ·rw [n2]
    refine ⟨_,_,_,m6,rfl,rfl,λ w7 m7 g7=>?_⟩;have vU:GB none w5 w7:=g6.new g7 l6;have h7:=h5.ax vU;obtain ⟨f',vV,e2',e3'⟩:=h7.ri.mt;have hout:R'.out.length<=870000:=by omega
    have q5:∀ y:Nat,y<=R'.out.length+315->y<=R.out.length+315*(k+1):=λ y hy=>Nat.le_trans hy (Nat.le_trans (Nat.add_le_add_right hb5 315) (by rw [Nat.mul_add];omega))
    rcases jM e3' k with ⟨n1',YM⟩ | ⟨y,v,n1',YM,rv,dv,rfl,hr⟩
    ·refine ⟨_,_,h7.ri.mem,_,rfl,f',vV,?_⟩
     rw [YM];have vS:_=eD A n (k+1) (gY A R' k nW):=vS.trans (by rw [n1,n1',if_neg (by decide)];rfl);refine ⟨_,FE HA ⟨_,h7⟩ o5 (s:=k) (by omega) HA.LJ (c:=nW) ⟨_,_,rfl,aM.zero _⟩ hout,?_⟩;rintro _ w8 ⟨rfl,h8,k8⟩;obtain ⟨p1,p2,p3,p4⟩:=o5.prop HA (s:=k) (by omega) HA.LJ;exact ⟨by omega,n,_,⟨k+1,gY A R' k nW,vS,by omega,by omega,rfl,h8,p1,(k5.trans vU.kz).trans k8,q5 _ p2⟩,⟨rfl,rfl,trivial⟩,by omega⟩
    ·obtain ⟨ra,rn,rc,da,dn,dc,rfl,rfl⟩:=hr.sl
     refine ⟨_,_,h7.ri.mem,_,rfl,f',vV,?_⟩;rw [YM];have vS:_=eD A n (k+1) (gY A R' k y.c):=vS.trans (by rw [n1,n1',if_neg (by decide)];rfl);have hgc:=(o5.mt _ _ n1').1;refine ⟨_,FE HA ⟨_,h7⟩ o5 (s:=k) (by omega) hgc (c:=y.c) ⟨.slice ra rn rc,.slice da dn dc,rfl,hr⟩ hout,?_⟩;rintro _ w8 ⟨rfl,h8,k8⟩;obtain ⟨p1,p2,p3,p4⟩:=o5.prop HA (s:=k) (by omega) hgc;exact ⟨by omega,n,_,⟨k+1,gY A R' k y.c,vS,by omega,by omega,rfl,h8,p1,(k5.trans vU.kz).trans k8,q5 _ p2⟩,⟨rfl,rfl,trivial⟩,by omega⟩
   ·rw [n2]
    rw [n1] at vS;obtain ⟨ra,rn,rc,da,dn,dc,rfl,rfl⟩:=hr.sl;refine ⟨_,_,_,m6,rfl,rfl,λ w7 m7 g7=>?_⟩;have vU:GB none w5 w7:=g6.new g7 l6;exact ⟨by omega,n,_,⟨k+1,R',vS,by omega,by omega,rfl,⟨_,h5.ax vU⟩,o5,k5.trans vU.kz,by omega⟩,⟨rfl,rfl,trivial⟩,by omega⟩
  ·have c1:¬ k<R'.sc.next:=by simp at c;omega
   have vS:=em.trans (KR c1);rw [eL,vS];obtain ⟨f,e1,_⟩:=h5.ri.mt;refine ⟨_,_,h5.ri.mem,_,rfl,f,e1,λ w6 m6 g6=>?_⟩;exact ⟨rfl,⟨_,h5.step h5.ri.lZ g6 (h5.ri.PU g6 (bR.none m6))⟩,k5.trans (h5.ri.kz h5.ri.lZ g6)⟩
 ·rintro i ⟨pk,pv⟩ w5 hi i5 g5
  obtain ⟨k,d,rfl,nI,_⟩:=hm1 _ (hsub _ (List.mem_of_getElem? hi));have hil:i<todo.length:=(List.getElem?_eq_some_iff.1 hi).1;have uS:=(ho.mt k d nI).2.1;have f4:∀ c t,w4.heap[it]?≠some (.cells c t):=by
   intro c t hh;obtain ⟨_,_,_,_,h⟩:=i4.it;rw [h] at hh;cases hh
  have h5:=h4.Gv g5 n3 u3 f4;have FD:(if ((k:Int)+1) > (x:Int) then ((k:Int)+1) else (x:Int))=((max x (k+1):Nat):Int):=by split <;> omega
  refine ⟨mt,l,_,_,i5,_,_,h5.ri.mem,_,rfl,by omega,_,_,nV { R with sc:={ R.sc with role:=2,next:=max x (k+1) } } ⟨vm,wm,kn,mt,pp,ac,.slice la R.log.length lc,ob,sT,sM,sD,sO,sI⟩,h5.ri.mem,rfl,by unfold nV;dsimp only;rw [<- FD];rfl,λ w6 m6 g6=>?_⟩;have h6:=h5.cell (s':={ R.sc with role:=2,next:=max x (k+1) }) m6 g6;have UT:it≠br:=λ e=>n3 (.inl e)
  have nmt:mt≠br:=gX h5.ri.mt.obj h5.ri.rX;have N9:it<w5.heap.size:=by obtain ⟨_,_,_,_,h⟩:=i5.it;exact ag h
  refine ⟨_,_,⟨todo.eraseIdx i,_,max x (k+1),rfl,rfl,i5.keep (g6.block _ N9 λ e=>UT (Option.some.inj e)) (g6.block _ (h5.ri.lt h5.ri.lZ) λ e=>nmt (Option.some.inj e)),h6,(k4.trans (g5.BX λ c t _=>f4 c t)).trans (h5.ri.kz h5.ri.iX g6),by omega,by omega,?_,?_,λ p hp=>hsub p (List.mem_of_mem_eraseIdx hp)⟩,⟨rfl,rfl,trivial⟩,?_⟩
  ·intro k' v' hk'
   by_cases e:k'=k
   ·exact .inl (by omega)
   ·rcases hx3 k' v' hk' with h | ⟨u,h⟩
    ·exact .inl (by omega)
    ·exact .inr ⟨u,mem_erase h hi λ e'=>e (by have:=congrArg Prod.fst e';dsimp only at this;omega)⟩
  ·by_cases hm:x<=k+1
   ·exact .inr ⟨k,d,nI,by omega⟩
   ·rw [show max x (k+1)=x by omega];exact hx4
  ·rw [List.length_eraseIdx,if_pos hil];omega
end
theorem GB.news {w0 w w':World} {d x:Nat} (h:GB (some d) w0 w) (k:GB (some x) w w') (hx:w0.heap.size<=x):GB (some d) w0 w' :=
 ⟨k.os.trans h.os,k.out.trans h.out,Nat.le_trans h.size k.size,λ y hy hd=>(k.block y (Nat.lt_of_lt_of_le hy h.size) (λ e=>by cases e;omega)).trans (h.block y hy hd)⟩
def orM (gs gd:Nat->Option MV):Nat->Option MV:=λ k=>(gs k).or (gd k)
theorem FH {w:World} {d s:Nat} {gd gs:Nat->Option MV} (hd:bR nU w d gd) (hs:bR nU w s gs) (hne:s≠d):af Tryz.prog 148 #[.map (some d),.map (some s)] w (λ v w'=>v=.tuple #[]/\bR nU w' d (orM gs gd)/\GB (some d) w w'):=by
 refine aj ah mixed Tryz.func148 rfl rfl ?_;obtain ⟨l,hl,hw⟩:=hs.walk;refine ⟨l,hl,λ w1 it i1 g1 l1=>?_⟩;obtain ⟨hm1,hm2⟩:=hw i1.nodup;have hdo:=hd.obj;refine ⟨λ n q w'=>∃ (todo:List (Int×Value)) (cur:Option (Int×Value)) (g:Nat->Option MV),n=todo.length/\q=[(0,.map (some d)),(7,Ptt it)]/\mi w' it s l todo cur/\bR nU w' d g/\GB (some d) w w'/\(∀ k,g k=orM gs gd k\/(g k=gd k/\∃ v,((k:Int),v)∈todo))/\∀ p∈todo,p∈l,⟨_,_,⟨l,none,gd,rfl,rfl,i1,hd.keep (λ _ _ h=>h.kz g1.kz) (g1.block _ hd.lt nofun),g1.weak,?_,λ _ h=>h⟩,rfl,rfl,trivial⟩,?_⟩
 ·intro k
  cases hk:gs k with
  | none=>exact .inl (by unfold orM;rw [hk];rfl)
  | some x=>exact .inr ⟨rfl,by obtain ⟨v,h,_⟩:=hm2 k x hk;exact ⟨v,h⟩⟩
 rintro n q w2 ⟨todo,cur,g,rfl,rfl,i2,hg,gg,hinv,hsub⟩;refine ⟨s,l,todo,cur,i2,λ e0=>?_,?_⟩
 ·subst e0
  have:g=orM gs gd:=funext λ k=>(hinv k).elim id λ h=>by obtain ⟨_,_,h⟩:=h;cases h
  rw [<- this];exact ⟨rfl,hg,gg⟩
 ·rintro i ⟨pk,pv⟩ w3 hi i3 g3
  obtain ⟨k,x,rfl,nI,rv,dv,rfl,hr⟩:=hm1 _ (hsub _ (List.mem_of_getElem? hi));obtain ⟨ra,rn,rc,da,dn,dc,rfl,rfl⟩:=hr.sl;have hil:i<todo.length:=(List.getElem?_eq_some_iff.1 hi).1;have N9:it<w3.heap.size:=by obtain ⟨_,_,_,_,h⟩:=i3.it;exact ag h
  have slt:s<w3.heap.size:=Nat.lt_of_lt_of_le (Nat.lt_of_lt_of_le hs.lt gg.size) g3.size;have UT:it≠d:=λ e=>by have:=hd.lt;omega
  refine ⟨s,l,_,_,i3,λ w4 b4 m4 g4 l4=>⟨_,_,_,m4,rfl,rfl,λ w5 m5 g5=>?_⟩⟩;have tH:GB none w3 w5:=g4.new g5 l4;have k23:Kz w2 w3:=g3.BX λ c t _ hh=>by obtain ⟨_,_,_,_,h⟩:=i2.it;rw [h] at hh;cases hh
  have hg3:bR nU w3 d g:=hg.keep (λ _ _ h=>h.kz k23) (g3.block _ hg.lt λ e=>UT (Option.some.inj e).symm);have hg5:bR nU w5 d g:=hg3.keep (λ _ _ h=>h.kz tH.kz) (tH.block _ hg3.lt nofun);have gg5:GB (some d) w w5:=(gg.news g3 l1).trans tH.weak;have UU:=hg5.obj;obtain ⟨f,e1,e2,e3⟩:=hg5;refine ⟨_,_,m5,jA x (.slice ra rn rc) (.slice da dn dc),rfl,rfl,f,e1,λ w6 m6 g6=>?_⟩;have k56:Kz w5 w6:=g6.BX λ c t _ hh=>by obtain ⟨_,_,h⟩:=UU;rw [h] at hh;cases hh
  have NU:Kz w w5:=gg5.BX λ c t _ hh=>by obtain ⟨_,_,h⟩:=hdo;rw [h] at hh;cases hh
  have hv6:nU w6 (.agg (jA x (.slice ra rn rc) (.slice da dn dc)).toArray) x:=⟨_,_,rfl,(hr.kz NU).kz k56⟩;refine ⟨_,_,⟨todo.eraseIdx i,_,upd g k (some x),rfl,rfl,i3.keep ((g6.block _ (Nat.lt_of_lt_of_le N9 tH.size) λ e=>UT (Option.some.inj e)).trans (tH.block _ N9 nofun)) ((g6.block _ (Nat.lt_of_lt_of_le slt tH.size) λ e=>hne (Option.some.inj e)).trans (tH.block _ slt nofun)),bR.put (λ _ _ h=>h.kz k56) e2 e3 hv6 m6,gg5.trans g6,?_,λ p hp=>hsub p (List.mem_of_mem_eraseIdx hp)⟩,⟨rfl,rfl,trivial⟩,?_⟩
  ·intro k'
   unfold upd;by_cases e:k'=k
   ·subst e
    rw [if_pos rfl];exact .inl (by unfold orM;rw [nI];rfl)
   ·rw [if_neg e]
    rcases hinv k' with h | ⟨h,v,hv⟩
    ·exact .inl h
    ·exact .inr ⟨h,v,mem_erase hv hi λ e'=>e (by have:=congrArg Prod.fst e';dsimp only at this;omega)⟩
  ·rw [List.length_eraseIdx,if_pos hil];omega
def ky (A:aT) (R:MR) (i:Nat):MR:=if 2*pc (iQ R.sc.prom i) > R.sc.sz then nA A { R with sc:={ R.sc with prom:=iQ R.sc.prom i } } else { R with sc:={ R.sc with prom:=iQ R.sc.prom i } }
section
variable {A:aT} (HA:bK A) {Λ:bU} {w:World} {br:Nat} {R:MR}
omit HA in
theorem Ok.prom (ho:Ok A R) {i:Nat} (hi:i<5):Ok A { R with sc:={ R.sc with prom:=iQ R.sc.prom i } }:=⟨ho.sz,ho.i,ho.st,ho.kn,ho.pp,ho.vt,ho.wv,ho.mt,ho.ac,uQ ho.pr hi,ho.lg,ho.lc,ho.nx,ho.sn⟩
include HA
theorem Ok.yw (ho:Ok A R) {i:Nat} (hi:i<5):Ok A (ky A R i)/\(ky A R i).out.length<=R.out.length+20000/\(ky A R i).sc.i=R.sc.i/\(ky A R i).sc.sz=R.sc.sz:=by
 unfold ky;split
 ·exact (ho.prom hi).lead HA
 ·exact ⟨ho.prom hi,Nat.le_add_right _ _,rfl,rfl⟩
theorem LU (h:Wk Λ br R w) (ho:Ok A R) {i:Nat} (hi:i<5) (hb:R.out.length<=840000):af Tryz.prog 141 #[Ptt br,.int .u8 i] w (λ v w'=>v=.tuple #[]/\Wk Λ br (ky A R i) w'/\Kz w w'):=by
 obtain ⟨a,h⟩:=h;refine aj ah mixed Tryz.func141 rfl rfl ?_;refine ⟨_,_,h.ri.mem,_,rfl,_,LC w _ i ho.pr hi,?_⟩;rintro _ w1 ⟨rfl,rfl⟩;refine ⟨_,_,_,h.ri.mem,rfl,rfl,λ w2 m2 g2=>?_⟩;have h2:=h.cell (s':={ R.sc with prom:=iQ R.sc.prom i }) m2 g2;have k2:=h.ri.kz h.ri.iX g2;refine ⟨by kernel_rfl,_,_,h2.ri.mem,_,rfl,_,_,h2.ri.mem,_,rfl,_,LA w2 _ _ (uQ ho.pr hi),?_⟩;rintro _ w3 ⟨rfl,rfl⟩;refine au (λ d=>?_) (λ d=>?_)
 ·have d1:2*pc (iQ R.sc.prom i) > R.sc.sz:=of_decide_eq_true d
  have em:ky A R i=nA A { R with sc:={ R.sc with prom:=iQ R.sc.prom i } }:=if_pos d1;rw [em];refine ⟨_,Wv HA ⟨_,h2⟩ (ho.prom hi) hb,?_⟩;rintro _ w4 ⟨rfl,h4,k4⟩;exact ⟨rfl,h4,k2.trans k4⟩
 ·have d1:¬ 2*pc (iQ R.sc.prom i) > R.sc.sz:=of_decide_eq_false d
  have em:ky A R i={ R with sc:={ R.sc with prom:=iQ R.sc.prom i } }:=if_neg d1;rw [em];exact ⟨rfl,⟨_,h2⟩,k2⟩
end
def qp (R:MR):MR:={ bZ R with sc:={ (bZ R).sc with role:=1 },met:=orM (bZ R).cz (bZ R).met }
def mE (A:aT) (R:MR):MR:=if R.sc.sz=1\/R.sc.seen≠4294967295 then ky A (qp R) R.sc.i else R
def lJ (g:Nat->Option MV) (v:MV):Nat->Option MV:=match g v.slot with
 | none=>upd g v.slot (some v)
 | some o=>if o.b.lt v.b=true then upd g v.slot (some v) else g
section
variable {A:aT} {R:MR}
theorem Cf (R:MR):(bZ R).sc.sz=R.sc.sz/\(bZ R).sc.i=R.sc.i/\(bZ R).out=R.out/\(bZ R).met=R.met/\(bZ R).cz=R.cz:=by
 unfold bZ;split
 ·exact ⟨rfl,rfl,rfl,rfl,rfl⟩
 ·exact ⟨rfl,rfl,rfl,rfl,rfl⟩
theorem Ok.raise (ho:Ok A R):Ok A (bZ R):=by
 have:=ho.sn;unfold bZ;split
 ·exact ho
 ·rename_i h
  exact ⟨ho.sz,ho.i,ho.st,ho.kn,ho.pp,ho.vt,ho.wv,ho.mt,ho.ac,ho.pr,ho.lg,ho.lc,ho.nx,by show R.sc.seen+1<=_;omega,by show R.sc.seen+1<=_;omega,ho.sn.2.2⟩
theorem Ok.H5 (ho:Ok A R):Ok A (qp R):=by
 have o:=ho.raise;refine ⟨o.sz,o.i,o.st,o.kn,o.pp,o.vt,o.wv,λ k v h=>?_,o.ac,o.pr,o.lg,o.lc,o.nx,o.sn⟩;have h:orM (bZ R).cz (bZ R).met k=some v:=h;unfold orM at h;cases hv:(bZ R).cz k with
 | none=>rw [hv] at h;exact o.mt k v h
 | some x=>rw [hv] at h;exact o.vt k v (hv.trans h)
end
section
variable {A:aT} (HA:bK A) {Λ:bU} {w:World} {br:Nat} {R:MR}
include HA
theorem Ok.eu (ho:Ok A R):Ok A (mE A R)/\(mE A R).out.length<=R.out.length+20000/\(mE A R).sc.i=R.sc.i/\(mE A R).sc.sz=R.sc.sz:=by
 unfold mE;obtain ⟨r1,r2,r3,_⟩:=Cf R;split
 ·have hi:=ho.i
  have hz:=ho.sz;obtain ⟨h1,h2,h3,h4⟩:=ho.H5.yw HA (i:=R.sc.i) (by omega);have e:(qp R).out=R.out:=r3;rw [e] at h2;exact ⟨h1,h2,h3.trans r2,h4.trans r1⟩
 ·exact ⟨ho,Nat.le_add_right _ _,rfl,rfl⟩
theorem Ww (h:Wk Λ br R w) (ho:Ok A R) (hb:R.out.length<=840000):af Tryz.prog 89 #[Ptt br] w (λ v w'=>v=.tuple #[]/\Wk Λ br (mE A R) w'/\Kz w w'):=by
 refine aj ah mixed Tryz.func89 rfl rfl ?_;refine ⟨_,SN h ho.sn.1,?_⟩;rintro _ w1 ⟨rfl,h1,k1⟩;obtain ⟨r1,r2,r3,r4,r5⟩:=Cf R;have hi:=ho.i;have hz:=ho.sz;refine au (λ d=>?_) (λ d=>?_)
 ·have d1:¬ (R.sc.sz=1\/R.sc.seen≠4294967295):=λ e=>by simp [e] at d
  have em:mE A R=R:=if_neg d1;have er:bZ R=R:=if_pos (.inr (by omega));rw [er] at h1;rw [em];exact ⟨rfl,h1,k1⟩
 ·have d1:R.sc.sz=1\/R.sc.seen≠4294967295:=by
   by_cases e:R.sc.sz=1\/R.sc.seen≠4294967295
   ·exact e
   ·simp [e] at d
  have em:mE A R=ky A (qp R) R.sc.i:=if_pos d1;rw [em];obtain ⟨a,h1⟩:=h1;refine ⟨_,_,_,h1.ri.mem,rfl,rfl,λ w2 m2 g2=>?_⟩;have h2:=h1.cell (s':={ (bZ R).sc with role:=1 }) m2 g2;have k2:=h1.ri.kz h1.ri.iX g2;have hne:a.vm≠a.mt:=by have:=h2.ri.sep;simp at this;omega
  refine ⟨by kernel_rfl,_,_,h2.ri.mem,_,rfl,_,_,h2.ri.mem,_,rfl,_,FH h2.ri.mt h2.ri.vm hne,?_⟩;rintro _ w3 ⟨rfl,hm3,g3⟩;have h3:Wa Λ br (qp R) a w3:=h2.step h2.ri.lZ g3 (h2.ri.PU g3 hm3);have k3:=h2.ri.kz h2.ri.lZ g3;have ec:=LU HA ⟨_,h3⟩ ho.H5 (i:=R.sc.i) (by omega) (by show (bZ R).out.length<=_;rw [r3];exact hb);have ei:(qp R).sc.i=R.sc.i:=r2;rw [<- ei] at ec;refine ⟨_,_,h3.ri.mem,_,rfl,_,ec,?_⟩;rintro _ w4 ⟨rfl,h4,k4⟩;rw [ei] at h4;exact ⟨rfl,h4,((k1.trans k2).trans k3).trans k4⟩
end
def fU (g:Nat->Option MV) (vs:List MV):Nat->Option MV:=vs.foldl lJ g
theorem wL {g:Nat->Option MV} {v:MV} (h:g v.slot=none):lJ g v=upd g v.slot (some v):=by unfold lJ;rw [h]
theorem yx {g:Nat->Option MV} {v o:MV} (h:g v.slot=some o) (hb:o.b.lt v.b=true):lJ g v=upd g v.slot (some v):=by unfold lJ;rw [h];exact if_pos hb
theorem Ao {g:Nat->Option MV} {v o:MV} (h:g v.slot=some o) (hb:o.b.lt v.b=false):lJ g v=g:=by unfold lJ;rw [h];exact if_neg (by rw [hb];decide)
def iZ (A:aT) (R:MR) (f:Nat×Nat) (b:bE) (vs:List MV):MR:=if R.sc.role≠1\/b≠R.sc.b then R else ky A { R with met:=fU R.met vs } f.2
theorem wM {g:Nat->Option MV} {vs:List MV} {k:Nat} {v:MV} (h:vs[k]? = some v):fU g (vs.take (k+1))=lJ (fU g (vs.take k)) v:=by
 unfold fU;rw [List.take_add_one,h,Option.toList_some,List.foldl_append];rfl
theorem Ap {P:Nat->MV->Prop}:∀ (vs:List MV) {g:Nat->Option MV},(∀ k v,g k=some v->P k v)->(∀ v∈vs,P v.slot v)->∀ k v,fU g vs k=some v->P k v
 | [],g,hg,_=>hg
 | x::vs,g,hg,hv=>by
  have:∀ k v,lJ g x k=some v->P k v:=by
   cases h:g x.slot with
   | none=>rw [wL h];exact lU hg (hv x (List.mem_cons_self ..))
   | some o =>
    cases hb:o.b.lt x.b with
    | true=>rw [yx h hb];exact lU hg (hv x (List.mem_cons_self ..))
    | false=>rw [Ao h hb];exact hg
  exact Ap vs this λ v h=>hv v (List.mem_cons_of_mem _ h)
theorem Wx {l:List MV} {ps:List (Value×Value)} (_hl:ps.length=l.length) {k:Nat} {x:MV} {p:Value×Value} (hx:l[k]? = some x) (hp:ps[k]? = some p):aQ (List.zipWith (λ x p=>jA x p.1 p.2) l ps).flatten (k*20) 20=jA x p.1 p.2:=by
 have h:=jW (f:=λ q:MV×(Value×Value)=>jA q.1 q.2.1 q.2.2) (size:=20) (λ _=>rfl) (l.zip ps) k (x,p) (by rw [List.getElem?_zip_eq_some];exact ⟨hx,hp⟩);rw [<- h];congr 1
 rw [List.flatMap_def,List.map_zip_eq_zipWith];rfl
section
variable {A:aT} {R:MR}
theorem Ok.fU (ho:Ok A R) {vs:List MV} (hv:∀ v∈vs,A.gc v.c/\v.slot<60):Ok A { R with met:=fU R.met vs }:=⟨ho.sz,ho.i,ho.st,ho.kn,ho.pp,ho.vt,ho.wv,Ap (P:=λ k (v:MV)=>A.gc v.c/\k<60/\v.slot=k) vs ho.mt λ v h=>⟨(hv v h).1,(hv v h).2,rfl⟩,ho.ac,ho.pr,ho.lg,ho.lc,ho.nx,ho.sn⟩
end
section
variable {A:aT} (HA:bK A) {Λ:bU} {w:World} {br:Nat} {R:MR}
include HA
theorem Ob (h:Wk Λ br R w) (ho:Ok A R) (f:Nat×Nat) (hf:f.2<5) (b:bE) {vs:List MV} (hv:∀ v∈vs,A.gc v.c/\v.slot<60) (hvl:vs.length<=1000000) {vv:Value} (hvs:bV w vv vs) (hb:R.out.length<=840000):af Tryz.prog 80 #[Ptt br,.agg #[.int .u8 f.1,.int .u8 f.2],.agg (bC b).toArray,vv] w (λ v w'=>v=.tuple #[]/\Wk Λ br (iZ A R f b vs) w'/\Kz w w'):=by
 have acV:=hvs;obtain ⟨va,vc,rfl⟩:=hvs.sl;refine aj ah mixed Tryz.func80 rfl rfl ?_;intro w1 b1 m1 g1 l1 w2 b2 m2 g2 l2;have m1:=g2.get m1 nofun;have g:=g1.trans g2;have h20:=h.ax g;have h2:=h20;obtain ⟨a,h2⟩:=h2;refine ⟨by kernel_rfl,_,_,h2.ri.mem,_,rfl,au (λ c=>?_) (λ c=>?_)⟩
 ·have c1:R.sc.role=1:=by simp at c;omega
  refine ⟨_,_,m2,_,rfl,rfl,_,_,h2.ri.mem,_,rfl,rfl,au (λ d=>?_) (λ d=>?_)⟩
  ·have d1:b≠R.sc.b:=by rintro rfl;simp at d
   have em:iZ A R f b vs=R:=if_pos (.inr d1);rw [em];exact ⟨rfl,h20,g.kz⟩
  ·have d1:b=R.sc.b:=by
    have e:b.n=R.sc.b.n/\b.id=R.sc.b.id:=by simp at d;omega
    exact bE.eq e.1 e.2
   have em:iZ A R f b vs=ky A { R with met:=fU R.met vs } f.2:=if_neg (by rintro (e | e);exact e c1;exact e d1);rw [em];obtain ⟨ps,hpl,⟨LV,LW,hve,YN,afL,hvd⟩,hps⟩:=acV.kz g.kz;cases hve
   refine ⟨λ q s w3=>∃ (k:Nat),q=vs.length - k/\k<=vs.length/\s=[(0,Ptt br),(5,Ptt b1),(26,.slice va vs.length vc),(27,.int .i64 vs.length),(28,.int .i64 k)]/\Wk Λ br { R with met:=fU R.met (vs.take k) } w3/\Kz w2 w3,⟨_,_,⟨0,rfl,Nat.zero_le _,rfl,h20,Kz.refl _⟩,rfl,rfl,rfl,rfl,rfl,trivial⟩,?_⟩;rintro q s w3 ⟨k,rfl,hk,rfl,⟨a3,h3⟩,k3⟩;refine au (λ e=>?_) (λ e=>?_)
   ·have e1:k<vs.length:=by simp at e;omega
    rcases hvd with ⟨_,h0⟩ | ⟨B,off,cs,rfl,hB,hcut⟩
    ·omega
    obtain ⟨x,hx⟩:∃ x,vs[k]? = some x:=⟨vs[k],by simp [e1]⟩;obtain ⟨⟨rv,dv⟩,hp⟩:∃ p,ps[k]? = some p:=⟨ps[k],by simp [hpl,e1]⟩;have hr:=(hps k x _ hx hp).kz k3;obtain ⟨ra,rn,rc,da,dn,dc,er,ed⟩:=hr.sl;dsimp only at er ed;subst er ed;have hB3:=k3 _ (by decide) _ _ hB;refine ⟨⟨by omega,by omega⟩,_,_,hB3,jA x (.slice ra rn rc) (.slice da dn dc),(Fz.elem hcut e1).trans (Wx hpl hx hp),rfl,λ w4 b4 m4 g4 l4=>⟨_,_,_,m4,rfl,rfl,λ w5 m5 g5=>?_⟩⟩;have tH:GB none w3 w5:=g4.new g5 l4;have h5:=h3.box tH m5 l4;have u5:=h3.qf l4;obtain ⟨ff,vV,e2',e3'⟩:=h5.ri.mt;refine ⟨by kernel_rfl,_,_,h5.ri.mem,_,rfl,_,_,m5,_,rfl,ff,vV,?_⟩;have hv5:∀ w',Kz w5 w'->nU w' (.agg (jA x (.slice ra rn rc) (.slice da dn dc)).toArray) x:=λ w' kk=>⟨_,_,rfl,(hr.kz tH.kz).kz kk⟩
    rcases jM e3' x.slot with ⟨n1,n2⟩ | ⟨o,v,n1,n2,rv,dv,rfl,hro⟩
    ·rw [n2]
     refine λ w6 b6 m6 g6 l6=>⟨⟨vV.keep (g6.block _ (h5.ri.lt h5.ri.lZ) nofun),g6.get m5 nofun,(h5.ax g6).ri.mem,trivial⟩,⟨_,_,_,m6,rfl,rfl,λ w7 m7 g7=>?_⟩⟩
     have vU:GB none w5 w7:=g6.new g7 l6;have h7:=h5.ax vU;have pI:=vU.get m5 nofun;obtain ⟨f7,p1,p2,p3⟩:=h7.ri.mt;refine ⟨by kernel_rfl,_,_,h7.ri.mem,_,rfl,_,_,pI,_,rfl,_,_,pI,jA x (.slice ra rn rc) (.slice da dn dc),rfl,rfl,f7,p1,λ w8 m8 g8=>?_⟩;have k8:=h7.ri.kz h7.ri.lZ g8;have h8:=h7.step h7.ri.lZ g8 (h7.ri.PU g8 (bR.put (λ _ _ h=>h.kz k8) p2 p3 (hv5 w8 (vU.kz.trans k8)) m8));refine ⟨by omega,_,_,⟨k+1,rfl,by omega,rfl,?_,k3.trans ((tH.kz.trans vU.kz).trans k8)⟩,⟨rfl,rfl,rfl,rfl,rfl,trivial⟩,by omega⟩;rw [wM hx,wL n1];exact Wk.drop ⟨_,h8⟩ u5
    ·rw [n2]
     obtain ⟨su,Jr,rc',rZ,zg,r9,rfl,rfl⟩:=hro.sl;refine λ w6 b6 m6 g6 l6=>⟨⟨vV.keep (g6.block _ (h5.ri.lt h5.ri.lZ) nofun),g6.get m5 nofun,(h5.ax g6).ri.mem,trivial⟩,⟨_,_,_,m6,rfl,rfl,λ w7 m7 g7=>?_⟩⟩
     have vU:GB none w5 w7:=g6.new g7 l6;have pI:=vU.get m5 nofun;refine ⟨_,_,m7,bC o.b,rfl,rfl,_,_,pI,bC x.b,rfl,rfl,_,CR w7 o.b x.b,?_⟩;rintro _ w8 ⟨rfl,g8⟩;have Cg:=vU.trans g8;have h8:=h5.ax Cg;have pI:=Cg.get m5 nofun;refine au (λ j=>?_) (λ j=>?_)
     ·obtain ⟨f7,p1,p2,p3⟩:=h8.ri.mt
      refine ⟨by kernel_rfl,_,_,h8.ri.mem,_,rfl,_,_,pI,_,rfl,_,_,pI,jA x (.slice ra rn rc) (.slice da dn dc),rfl,rfl,f7,p1,λ w9 m9 g9=>?_⟩;have k9:=h8.ri.kz h8.ri.lZ g9;have h9:=h8.step h8.ri.lZ g9 (h8.ri.PU g9 (bR.put (λ _ _ h=>h.kz k9) p2 p3 (hv5 w9 (Cg.kz.trans k9)) m9));refine ⟨by omega,_,_,⟨k+1,rfl,by omega,rfl,?_,k3.trans ((tH.kz.trans Cg.kz).trans k9)⟩,⟨rfl,rfl,rfl,rfl,rfl,trivial⟩,by omega⟩;rw [wM hx,yx n1 j];exact Wk.drop ⟨_,h9⟩ u5
     ·refine ⟨by omega,_,_,⟨k+1,rfl,by omega,rfl,?_,k3.trans (tH.kz.trans Cg.kz)⟩,⟨rfl,rfl,rfl,rfl,rfl,trivial⟩,by omega⟩
      rw [wM hx,Ao n1 j];exact Wk.drop ⟨_,h8⟩ u5
   ·have e1:k=vs.length:=by simp at e;omega
    subst e1;rw [List.take_length] at h3;have Et:=k3 _ (by decide) _ _ m1;refine ⟨_,_,Et,_,rfl,_,LU HA ⟨_,h3⟩ (ho.fU hv) hf hb,?_⟩;rintro _ w4 ⟨rfl,h4,k4⟩;exact ⟨rfl,h4,(g.kz.trans k3).trans k4⟩
 ·have c1:R.sc.role≠1:=by simp at c;omega
  have em:iZ A R f b vs=R:=if_pos (.inl c1);rw [em];exact ⟨rfl,h20,g.kz⟩
end
theorem YO {α β:Type} {F:α->β->List Value} {size:Nat} (hF:∀ x y,(F x y).length=size) {l:List α} {ps:List β} {k:Nat} {x:α} {p:β} (hx:l[k]? = some x) (hp:ps[k]? = some p):aQ (List.zipWith F l ps).flatten (k*size) size=F x p:=by
 have h:=jW (f:=λ q:α×β=>F q.1 q.2) (size:=size) (λ q=>hF q.1 q.2) (l.zip ps) k (x,p) (by rw [List.getElem?_zip_eq_some];exact ⟨hx,hp⟩);rw [<- h];congr 1
 rw [List.flatMap_def,List.map_zip_eq_zipWith];rfl
def oQ (enc:MM->ByteArray) (R:MR) (k:Nat):MR:=match R.props k with
 | some c=>Jg enc R k c
 | none=>R
def qw (enc:MM->ByteArray) (R:MR) (g:Nat):MR:=match (R.st.O.getD g (0,[])).2 with
 | []=>R
 | r::_=>lH enc R { aP 9 with r:=r } (gD R.sc.g R.sc.i g R.sc.sz)
def iH (enc:MM->ByteArray) (R:MR) (n:Nat):MR:=(List.range n).foldl (oQ enc) R
def iT (enc:MM->ByteArray) (R:MR) (n:Nat):MR:=(List.range n).foldl (qw enc) R
def qZ (enc:MM->ByteArray) (R:MR):MR:=iT enc (iH enc R R.sc.next) R.st.O.length
theorem yz (enc:MM->ByteArray) (R:MR) (n:Nat):iH enc R (n+1)=oQ enc (iH enc R n) n:=by unfold iH;rw [List.range_succ,List.foldl_append];rfl
theorem yA (enc:MM->ByteArray) (R:MR) (n:Nat):iT enc R (n+1)=qw enc (iT enc R n) n:=by unfold iT;rw [List.range_succ,List.foldl_append];rfl
structure jO (R R':MR) (n:Nat):Prop where
 eq:R'={ R with out:=R'.out }
 len:R'.out.length<=R.out.length+n
theorem jO.snd {R R':MR} {n:Nat} (h:jO R R' n) (enc:MM->ByteArray) (m:MM) {tl:List (Nat×Nat)} (ht:tl.length<=5):jO R (lH enc R' m tl) (n+5):=by
 refine ⟨?_,by rw [jN];have:=h.len;omega⟩;have h1:lH enc R' m tl={ R' with out:=(lH enc R' m tl).out }:=rfl;rw [h1];have:=h.eq;generalize (lH enc R' m tl).out=o;rw [this]
theorem jO.weak {R R':MR} {n m:Nat} (h:jO R R' n) (hm:n<=m):jO R R' m:=⟨h.eq,by have:=h.len;omega⟩
theorem jO.f {R R':MR} {n:Nat} (h:jO R R' n):R'.sc=R.sc/\R'.props=R.props/\R'.st=R.st:=by rw [h.eq];exact ⟨rfl,rfl,rfl⟩
theorem jO.ok {A:aT} {R R':MR} {n:Nat} (h:jO R R' n) (o:Ok A R):Ok A R':=by
 rw [h.eq];exact ⟨o.sz,o.i,o.st,o.kn,o.pp,o.vt,o.wv,o.mt,o.ac,o.pr,o.lg,o.lc,o.nx,o.sn⟩
theorem vW (enc:MM->ByteArray) (R:MR) (hz:R.sc.sz<=5):∀ n,jO R (iH enc R n) (5*n)
 | 0=>⟨rfl,Nat.le_refl _⟩
 | n+1=>by
  have ih:=vW enc R hz n;rw [yz];unfold oQ;split
  ·have:=iR (iH enc R n).sc.g (iH enc R n).sc.i (iH enc R n).sc.g (iH enc R n).sc.sz
   rw [ih.f.1] at this;exact ih.snd _ _ (by rw [ih.f.1];omega)
  ·exact ih.weak (by omega)
theorem vX (enc:MM->ByteArray) (R:MR) (hz:R.sc.sz<=5):∀ n,jO R (iT enc R n) (5*n)
 | 0=>⟨rfl,Nat.le_refl _⟩
 | n+1=>by
  have ih:=vX enc R hz n;rw [yA];unfold qw;split
  ·exact ih.weak (by omega)
  ·have:=iR (iT enc R n).sc.g (iT enc R n).sc.i n (iT enc R n).sc.sz
   rw [ih.f.1] at this;exact ih.snd _ _ (by rw [ih.f.1];omega)
theorem Tf {w:World} {vO:Value} {O:List (Int×List Rg)} (h:∃ qs:List Value,qs.length=O.length/\Fz w 62 2 vO O.length (List.zipWith (λ (o:Int×List Rg) q=>[Value.int .u32 o.1,q]) O qs).flatten/\∀ (i:Nat) (o:Int×List Rg) (q:Value),O[i]? = some o->qs[i]? = some q->tF w q o.2) {p:Nat} (hp:p<O.length):∃ b off cap cs n q,vO=.slice (some ⟨b,off,none⟩) O.length cap/\O.length<=cap/\w.heap[b]? = some (.cells cs 62)/\aQ cs.toList (off+p*2) 2=[.int .u32 n,q]/\tF w q (O.getD p (0,[])).2:=by
 obtain ⟨qs,h1,⟨a,c,rfl,h3,h4,h5⟩,h6⟩:=h;rcases h5 with ⟨_,h0⟩ | ⟨b,off,cs,rfl,hb,hcut⟩
 ·omega
 obtain ⟨o,ho⟩:∃ o,O[p]? = some o:=⟨O[p],by simp [hp]⟩;obtain ⟨q,hq⟩:∃ q,qs[p]? = some q:=⟨qs[p],by simp [h1,hp]⟩;refine ⟨b,off,c,cs,o.1,q,rfl,h3,hb,(Fz.elem hcut hp).trans (YO (F:=λ (o:Int×List Rg) q=>[Value.int .u32 o.1,q]) (λ _ _=>rfl) ho hq),?_⟩;rw [List.getD_eq_getElem?_getD,ho];exact h6 p o q ho hq
section
variable {A:aT} (HA:bK A) {Λ:bU} {w:World} {br:Nat} {R:MR}
include HA
theorem Gx (h:Wk Λ br R w) (ho:Ok A R) (hb:R.out.length<=880000):af Tryz.prog 92 #[Ptt br] w (λ v w'=>v=.tuple #[]/\Wk Λ br (qZ A.enc R) w'/\Kz w w'):=by
 have h0:=h;obtain ⟨a,h⟩:=h;have hz:=ho.sz;have hnx:=ho.nx;have hol:=HA.ol _ ho.st;refine aj ah mixed Tryz.func92 rfl rfl ?_;refine ⟨_,_,h.ri.mem,_,rfl,?_⟩;refine ⟨λ n s w'=>∃ (k:Nat),n=R.sc.next - k/\k<=R.sc.next/\s=[(0,Ptt br),(10,.int .u32 R.sc.next),(11,.int .u32 k)]/\Wk Λ br (iH A.enc R k) w'/\Kz w w',⟨_,_,⟨0,rfl,Nat.zero_le _,rfl,h0,Kz.refl _⟩,rfl,rfl,rfl,trivial⟩,?_⟩;rintro n s w1 ⟨k,rfl,hk,rfl,h10,k1⟩;have h1:=h10;obtain ⟨a1,h1⟩:=h1;have O1:=vW A.enc R hz k;obtain ⟨f1,f2,f3⟩:=O1.f;have lo1:=O1.len;refine au (λ c=>?_) (λ c=>?_)
 ·have c1:k<R.sc.next:=by simp at c;omega
  obtain ⟨f,e1,e2,e3⟩:=h1.ri.pp;refine ⟨_,_,h1.ri.mem,_,rfl,f,e1,λ w2 b2 m2 g2 l2=>?_⟩;rcases jM e3 k with ⟨n1,n2⟩ | ⟨y,v,n1,n2,rv,dv,rfl,hr⟩
  ·rw [n2]
   refine ⟨_,_,_,m2,rfl,rfl,λ w3 m3 g3=>?_⟩;have g13:GB none w1 w3:=g2.new g3 l2;refine ⟨by omega,_,_,⟨k+1,rfl,by omega,rfl,?_,k1.trans g13.kz⟩,⟨rfl,rfl,rfl,trivial⟩,by omega⟩;rw [yz];unfold oQ;rw [n1];exact h10.ax g13
  ·rw [n2]
   obtain ⟨ra,rn,rc,da,dn,dc,rfl,rfl⟩:=hr.sl;refine ⟨_,_,_,m2,rfl,rfl,λ w3 m3 g3=>?_⟩;have g13:GB none w1 w3:=g2.new g3 l2;refine ⟨_,_,m3,dz y (.slice ra rn rc) (.slice da dn dc),rfl,rfl,_,UM HA.mD (h10.ax g13) (by rw [f1];exact hz) (c:=y) ⟨_,_,rfl,hr.kz g13.kz⟩ (by omega),?_⟩;rintro _ w4 ⟨rfl,h4,k4⟩;refine ⟨by omega,_,_,⟨k+1,rfl,by omega,rfl,?_,(k1.trans g13.kz).trans k4⟩,⟨rfl,rfl,rfl,trivial⟩,by omega⟩;rw [yz];unfold oQ;rw [n1];exact h4
 have c1:k=R.sc.next:=by simp at c;omega
 subst c1;have o1:Ok A (iH A.enc R R.sc.next):=O1.ok ho;have eR:qZ A.enc R=iT A.enc (iH A.enc R R.sc.next) (iH A.enc R R.sc.next).st.O.length:=by unfold qZ;rw [f3]
 have afM:(iH A.enc R R.sc.next).st.O.length<=200:=by rw [f3];exact hol
 have hz1:(iH A.enc R R.sc.next).sc.sz<=5:=by rw [f1];exact hz
 rw [eR];generalize iH A.enc R R.sc.next=R1 at *;obtain ⟨vm,wm,kn,mt,pp,ac,lg,ob,sT,sM,sD,sO,sI⟩:=a1;have hO:=h1.ri.st.O;obtain ⟨oa,oc,rfl⟩:∃ oa oc,sO=.slice oa R1.st.O.length oc:=by obtain ⟨_,_,⟨a,c,h,_⟩,_⟩:=hO;exact ⟨a,c,h⟩
 refine ⟨_,_,h1.ri.mem,_,rfl,?_⟩;refine ⟨λ n s w'=>∃ (k:Nat),n=R1.st.O.length - k/\k<=R1.st.O.length/\s=[(0,Ptt br),(33,.slice oa R1.st.O.length oc),(34,.int .i64 R1.st.O.length),(35,.int .i64 k)]/\Wk Λ br (iT A.enc R1 k) w'/\Kz w1 w',⟨_,_,⟨0,rfl,Nat.zero_le _,rfl,h10,Kz.refl _⟩,rfl,rfl,rfl,rfl,trivial⟩,?_⟩;rintro n s w2 ⟨k,rfl,hk,rfl,h2,k2⟩;have O2:=vX A.enc R1 hz1 k;obtain ⟨q1,q2,q3⟩:=O2.f;have lo2:=O2.len;refine au (λ d=>?_) (λ d=>?_)
 ·have d1:k<R1.st.O.length:=by simp at d;omega
  obtain ⟨B,off,cap,cs,nn,q,ee,hcap,hB,hcut,hQ⟩:=Tf hO d1;cases ee
  have UW:=hQ.kz k2;obtain ⟨qa,qn,qc,rfl⟩:∃ qa qn qc,q=.slice qa qn qc:=by obtain ⟨_,_,⟨a,c,h,_⟩,_⟩:=hQ;exact ⟨a,_,c,h⟩
  refine ⟨⟨by omega,by omega⟩,_,_,k2 _ (by decide) _ _ hB,[.int .u32 nn,.slice qa qn qc],hcut,rfl,λ w3 b3 m3 g3 l3=>⟨_,_,_,m3,rfl,rfl,λ w4 m4 g4=>?_⟩⟩;have g24:GB none w2 w4:=g3.new g4 l3;have h4:=h2.ax g24;refine ⟨_,_,m4,_,rfl,?_⟩;cases hl:(R1.st.O.getD k (0,[])).2 with
  | nil =>
   rw [hl] at UW;obtain ⟨_,_,⟨_,_,he,_⟩,_⟩:=UW;cases he
   refine ⟨by omega,_,_,⟨k+1,rfl,by omega,rfl,?_,k2.trans g24.kz⟩,⟨rfl,rfl,rfl,rfl,trivial⟩,by omega⟩;rw [yA];unfold qw;rw [q3,hl];exact h4
  | cons r rs =>
   rw [hl] at UW;obtain ⟨b,o,tJ,cq,rv,dv,he,hqc,hbq,hcq,hr⟩:=UW.hd;cases he
   have e2:iT A.enc R1 (k+1)=lH A.enc (iT A.enc R1 k) { aP 9 with r:=r } (gD (iT A.enc R1 k).sc.g (iT A.enc R1 k).sc.i k (iT A.enc R1 k).sc.sz):=by
    rw [yA];unfold qw;rw [q3,hl]
   refine au (λ e=>?_) (λ e=>?_)
   ·have YP:=g24.get hbq nofun
    refine ⟨by kernel_rfl,_,_,m4,_,rfl,⟨by omega,by omega⟩,_,_,YP,eO r rv dv,hcq,rfl,.inl ⟨by omega,_,Ad h4 k (by rw [q1];exact hz1),?_⟩⟩;rintro v w5 ⟨hv,g5⟩;have hol:=iR (iT A.enc R1 k).sc.g (iT A.enc R1 k).sc.i k (iT A.enc R1 k).sc.sz;rw [q1] at hol;refine ⟨⟨g5.get YP nofun,g5.get m4 nofun,trivial⟩,_,mU HA.mD (h4.ax g5) (m:={ aP 9 with r:=r }) ⟨_,_,_,_,_,rfl,aM.zero _,bV.zero _,(hr.kz g24.kz).kz g5.kz⟩ hv (by rw [q1];omega),?_⟩;rintro _ w6 ⟨rfl,h6,k6⟩;refine ⟨by omega,_,_,⟨k+1,rfl,by omega,rfl,?_,((k2.trans g24.kz).trans g5.kz).trans k6⟩,⟨rfl,rfl,rfl,rfl,trivial⟩,by omega⟩;rw [e2];exact h6
   ·exfalso;simp at e
 ·have d1:k=R1.st.O.length:=by simp at d;omega
  subst d1;exact ⟨rfl,h2,k1.trans k2⟩
end
end
end Go.Proofs.YtignemioillaiabGreat
