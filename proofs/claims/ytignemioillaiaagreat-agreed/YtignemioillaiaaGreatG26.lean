/- A replica at work (21): lead. -/
import Derived.Test.YtignemioillaiaaGreatG25
namespace Go.Proofs.YtignemioillaiaaGreat
set_option maxHeartbeats 8000000
set_option maxRecDepth 100000
section
open Go Go.Conc
theorem mD.nodup {w:World} {it m:Nat} {l todo:List (Int×Value)} {cur:Option (Int×Value)} (h:mD w it m l todo cur):(l.map Prod.fst).Nodup:=by
 obtain ⟨_,_,_,_,_,_,_,_,_,_,_,_,_,h,_⟩:=h;exact h
theorem mD.it {w:World} {it m:Nat} {l todo:List (Int×Value)} {cur:Option (Int×Value)} (h:mD w it m l todo cur):∃ m' a b c,w.heap[it]? = some (.mapIter m' a b c):=by
 obtain ⟨_,_,_,_,_,_,_,_,_,_,_,h,_⟩:=h;exact ⟨_,_,_,_,h⟩
theorem bS.walk {α:Type} {rel:World->Value->α->Prop} {w:World} {m:Nat} {g:Nat->Option α} (hg:bS rel w m g):∃ l,kV w m l/\((l.map Prod.fst).Nodup->(∀ p∈l,∃ (k:Nat) (d:α),p.1=k/\g k=some d/\rel w p.2 d)/\∀ k d,g k=some d->∃ v,((k:Int),v)∈l/\rel w v d):=by
 obtain ⟨f,⟨l,hl,hlf⟩,e2,e3⟩:=hg;refine ⟨l,hl,λ hn=>⟨?_,?_⟩⟩
 ·intro p hp
  have h1:f p.1=some p.2:=by rw [<- hlf];exact (vU hn).2 hp
  obtain ⟨k,hk⟩:∃ k:Nat,p.1=k:=by
   rcases (by omega:p.1<0\/0<=p.1) with h0 | h0
   ·rw [e2 _ h0] at h1;cases h1
   ·exact ⟨p.1.toNat,by omega⟩
  rw [hk] at h1;rcases jN e3 k with ⟨n1,n2⟩ | ⟨x,v,n1,n2,n3⟩
  ·rw [n2] at h1;cases h1
  ·rw [n2] at h1;cases h1;exact ⟨k,x,hk,n1,n3⟩
 ·intro k d mH
  rcases jN e3 k with ⟨n1,n2⟩ | ⟨x,v,n1,n2,n3⟩
  ·rw [n1] at mH;cases mH
  ·rw [n1] at mH;cases mH;exact ⟨v,(vU hn).1 (by rw [hlf];exact n2),n3⟩
theorem Lc {A:aT} {n s:Nat} {R:MR} (h:¬ s<R.sc.next):eH A (n+1) s R=R:=by unfold eH;rw [if_neg h]
theorem Qh {A:aT} {n s:Nat} {R:MR} (h:s<R.sc.next):eH A (n+1) s R=eH A n (s+1) (if (R.known s).isSome=true then R else ik A R s (((R.met s).map MV.c).getD ky)):=by rw [eH,if_pos h]
section
variable {A:aT} (HA:bK A) {Λ:bV} {w:World} {br:Nat} {R:MR}
include HA
theorem WX (h:Wk Λ br R w) (ho:Ok A R) (hb:R.out.length<=840000):ag Tryz.prog 188 #[Ptt br] w (λ v w'=>v=.tuple #[]/\Wk Λ br (nE A R) w'/\Kz w w'):=by
 obtain ⟨a,h⟩:=h;obtain ⟨vm,wm,kn,mt,pp,ac,lg,ob,sT,sM,sD,sO,sI⟩:=a;obtain ⟨la,lc,rfl⟩:∃ la lc,lg=.slice la R.log.length lc:=by obtain ⟨_,_,h,_⟩:=h.ri.lg;exact af h
 have EB:=ho.lg;refine au ah mixed Tryz.func188 rfl rfl ?_;refine ⟨_,_,_,h.ri.mem,rfl,rfl,λ w1 m1 g1=>?_⟩;have h1:=h.cell (s':={ R.sc with role:=2 }) m1 g1;refine ⟨_,_,h1.ri.mem,_,rfl,.inl ⟨by omega,_,_,_,h1.ri.mem,rfl,rfl,λ w2 m2 g2=>?_⟩⟩;have h2:=h1.cell (s':={ R.sc with role:=2,next:=R.log.length }) m2 g2;have k2:=(h.ri.kz h.ri.jb g1).trans (h1.ri.kz h1.ri.jb g2);obtain ⟨l,hl,hw⟩:=h2.ri.mt.walk;refine ⟨_,_,h2.ri.mem,_,rfl,l,hl,λ w3 it i3 g3 l3=>?_⟩;obtain ⟨hm1,hm2⟩:=hw i3.nodup;have h3:=h2.ax g3;have u3:=h2.qh l3;have n3:¬ Own br ⟨vm,wm,kn,mt,pp,ac,.slice la R.log.length lc,ob,sT,sM,sD,sO,sI⟩ it:=λ e=>by have:=h2.ri.lt e;omega
 refine ⟨λ n s w'=>∃ (todo:List (Int×Value)) (cur:Option (Int×Value)) (x:Nat),n=todo.length/\s=[(0,Ptt br),(22,Ptt it)]/\mD w' it mt l todo cur/\Wa Λ br { R with sc:={ R.sc with role:=2,next:=x } } ⟨vm,wm,kn,mt,pp,ac,.slice la R.log.length lc,ob,sT,sM,sD,sO,sI⟩ w'/\Kz w w'/\R.log.length<=x/\x<=60/\(∀ k v,R.met k=some v->k+1<=x\/∃ v',((k:Int),v')∈todo)/\(x=R.log.length\/∃ k v,R.met k=some v/\x=k+1)/\∀ p∈todo,p∈l,⟨_,_,⟨l,none,R.log.length,rfl,rfl,i3,h3,k2.trans g3.kz,Nat.le_refl _,EB,λ k v hk=>.inr (by obtain ⟨v',h,_⟩:=hm2 k v hk;exact ⟨v',h⟩),.inl rfl,λ _ h=>h⟩,rfl,rfl,trivial⟩,?_⟩;rintro n s w4 ⟨todo,cur,x,rfl,rfl,i4,h4,k4,hx1,hx2,hx3,hx4,hsub⟩;refine ⟨mt,l,todo,cur,i4,λ e0=>?_,?_⟩
 ·subst e0
  have hx:iK R.met R.log.length=x:=Tz (λ k v hk=>(ho.mt k v hk).2.1) hx1 (λ k v hk=>(hx3 k v hk).elim id (λ h=>by obtain ⟨_,h⟩:=h;cases h)) hx4;have eL:nE A R={ eH A 61 R.log.length { R with sc:={ R.sc with role:=2,next:=x } } with met:=λ _=>none }:=by unfold nE;rw [hx]
  have oL:=ho.Ik;rw [hx] at oL;refine ⟨_,_,h4.ri.mem,_,rfl,.inl ⟨by omega,?_⟩⟩;refine ⟨λ n s w'=>∃ (k:Nat) (R':MR),eH A 61 R.log.length { R with sc:={ R.sc with role:=2,next:=x } }=eH A n k R'/\n+k=61+R.log.length/\k<=60/\s=[(0,Ptt br),(3,.int .u32 k)]/\Wk Λ br R' w'/\Ok A R'/\Kz w w'/\R'.out.length<=R.out.length+315*k,⟨_,_,⟨R.log.length,_,rfl,rfl,EB,rfl,⟨_,h4⟩,oL,k4,Nat.le_add_right _ _⟩,rfl,rfl,trivial⟩,?_⟩;rintro n s w5 ⟨k,R',em,en,hk,rfl,⟨a,h5⟩,o5,k5,hb5⟩;obtain ⟨n,rfl⟩:∃ m,n=m+1:=⟨n - 1,by omega⟩;have hnx:=o5.nx;refine ⟨_,_,h5.ri.mem,_,rfl,aj (λ c=>?_) (λ c=>?_)⟩
  ·have c1:k<R'.sc.next:=by simp at c;omega
   have wh:=em.trans (Qh c1);obtain ⟨f,e1,e2,e3⟩:=h5.ri.kn;refine ⟨_,_,h5.ri.mem,_,rfl,f,e1,λ w6 b6 m6 g6 l6=>?_⟩;rcases jN e3 k with ⟨n1,n2⟩ | ⟨y,v,n1,n2,rv,dv,rfl,hr⟩
   ·rw [n2]
    refine ⟨_,_,_,m6,rfl,rfl,λ w7 m7 g7=>?_⟩;have wo:GB none w5 w7:=g6.new g7 l6;have h7:=h5.ax wo;obtain ⟨f',tO,e2',e3'⟩:=h7.ri.mt;have hout:R'.out.length<=870000:=by omega
    have q5:∀ y:Nat,y<=R'.out.length+315->y<=R.out.length+315*(k+1):=λ y hy=>Nat.le_trans hy (Nat.le_trans (Nat.add_le_add_right hb5 315) (by rw [Nat.mul_add];omega))
    rcases jN e3' k with ⟨n1',Zd⟩ | ⟨y,v,n1',Zd,rv,dv,rfl,hr⟩
    ·refine ⟨_,_,h7.ri.mem,_,rfl,f',tO,?_⟩
     rw [Zd];have wh:_=eH A n (k+1) (ik A R' k ky):=wh.trans (by rw [n1,n1',if_neg (by decide)];rfl);refine ⟨_,FP HA ⟨_,h7⟩ o5 (s:=k) (by omega) HA.Ju (c:=ky) ⟨_,_,rfl,aM.zero _⟩ hout,?_⟩;rintro _ w8 ⟨rfl,h8,k8⟩;obtain ⟨p1,p2,p3,p4⟩:=o5.prop HA (s:=k) (by omega) HA.Ju;exact ⟨by omega,n,_,⟨k+1,ik A R' k ky,wh,by omega,by omega,rfl,h8,p1,(k5.trans wo.kz).trans k8,q5 _ p2⟩,⟨rfl,rfl,trivial⟩,by omega⟩
    ·obtain ⟨ra,rn,rc,da,dn,dc,rfl,rfl⟩:=hr.sl
     refine ⟨_,_,h7.ri.mem,_,rfl,f',tO,?_⟩;rw [Zd];have wh:_=eH A n (k+1) (ik A R' k y.c):=wh.trans (by rw [n1,n1',if_neg (by decide)];rfl);have hgc:=(o5.mt _ _ n1').1;refine ⟨_,FP HA ⟨_,h7⟩ o5 (s:=k) (by omega) hgc (c:=y.c) ⟨.slice ra rn rc,.slice da dn dc,rfl,hr⟩ hout,?_⟩;rintro _ w8 ⟨rfl,h8,k8⟩;obtain ⟨p1,p2,p3,p4⟩:=o5.prop HA (s:=k) (by omega) hgc;exact ⟨by omega,n,_,⟨k+1,ik A R' k y.c,wh,by omega,by omega,rfl,h8,p1,(k5.trans wo.kz).trans k8,q5 _ p2⟩,⟨rfl,rfl,trivial⟩,by omega⟩
   ·rw [n2]
    rw [n1] at wh;obtain ⟨ra,rn,rc,da,dn,dc,rfl,rfl⟩:=hr.sl;refine ⟨_,_,_,m6,rfl,rfl,λ w7 m7 g7=>?_⟩;have wo:GB none w5 w7:=g6.new g7 l6;exact ⟨by omega,n,_,⟨k+1,R',wh,by omega,by omega,rfl,⟨_,h5.ax wo⟩,o5,k5.trans wo.kz,by omega⟩,⟨rfl,rfl,trivial⟩,by omega⟩
  ·have c1:¬ k<R'.sc.next:=by simp at c;omega
   have wh:=em.trans (Lc c1);rw [eL,wh];obtain ⟨f,e1,_⟩:=h5.ri.mt;refine ⟨_,_,h5.ri.mem,_,rfl,f,e1,λ w6 m6 g6=>?_⟩;exact ⟨rfl,⟨_,h5.step h5.ri.mh g6 (h5.ri.Qa g6 (bS.none m6))⟩,k5.trans (h5.ri.kz h5.ri.mh g6)⟩
 ·rintro i ⟨pk,pv⟩ w5 hi i5 g5
  obtain ⟨k,d,rfl,mH,_⟩:=hm1 _ (hsub _ (List.mem_of_getElem? hi));have hil:i<todo.length:=(List.getElem?_eq_some_iff.1 hi).1;have uW:=(ho.mt k d mH).2.1;have f4:∀ c t,w4.heap[it]?≠some (.cells c t):=by
   intro c t hh;obtain ⟨_,_,_,_,h⟩:=i4.it;rw [h] at hh;cases hh
  have h5:=h4.GK g5 n3 u3 f4;have FO:(if ((k:Int)+1) > (x:Int) then ((k:Int)+1) else (x:Int))=((max x (k+1):Nat):Int):=by split <;> omega
  refine ⟨mt,l,_,_,i5,_,_,h5.ri.mem,_,rfl,by omega,_,_,nX { R with sc:={ R.sc with role:=2,next:=max x (k+1) } } ⟨vm,wm,kn,mt,pp,ac,.slice la R.log.length lc,ob,sT,sM,sD,sO,sI⟩,h5.ri.mem,rfl,by unfold nX;dsimp only;rw [<- FO];rfl,λ w6 m6 g6=>?_⟩;have h6:=h5.cell (s':={ R.sc with role:=2,next:=max x (k+1) }) m6 g6;have Vf:it≠br:=λ e=>n3 (.inl e)
  have nmt:mt≠br:=ig h5.ri.mt.obj h5.ri.r9;have Oi:it<w5.heap.size:=by obtain ⟨_,_,_,_,h⟩:=i5.it;exact ae h
  refine ⟨_,_,⟨todo.eraseIdx i,_,max x (k+1),rfl,rfl,i5.keep (g6.block _ Oi λ e=>Vf (Option.some.inj e)) (g6.block _ (h5.ri.lt h5.ri.mh) λ e=>nmt (Option.some.inj e)),h6,(k4.trans (g5.Aj λ c t _=>f4 c t)).trans (h5.ri.kz h5.ri.jb g6),by omega,by omega,?_,?_,λ p hp=>hsub p (List.mem_of_mem_eraseIdx hp)⟩,⟨rfl,rfl,trivial⟩,?_⟩
  ·intro k' v' hk'
   by_cases e:k'=k
   ·exact .inl (by omega)
   ·rcases hx3 k' v' hk' with h | ⟨u,h⟩
    ·exact .inl (by omega)
    ·exact .inr ⟨u,mem_erase h hi λ e'=>e (by have:=congrArg Prod.fst e';dsimp only at this;omega)⟩
  ·by_cases hm:x<=k+1
   ·exact .inr ⟨k,d,mH,by omega⟩
   ·rw [show max x (k+1)=x by omega];exact hx4
  ·rw [List.length_eraseIdx,if_pos hil];omega
end
theorem GB.news {w0 w w':World} {d x:Nat} (h:GB (some d) w0 w) (k:GB (some x) w w') (hx:w0.heap.size<=x):GB (some d) w0 w' :=
 ⟨k.os.trans h.os,k.out.trans h.out,Nat.le_trans h.size k.size,λ y hy hd=>(k.block y (Nat.lt_of_lt_of_le hy h.size) (λ e=>by cases e;omega)).trans (h.block y hy hd)⟩
def orM (gs gd:Nat->Option MV):Nat->Option MV:=λ k=>(gs k).or (gd k)
theorem FQ {w:World} {d s:Nat} {gd gs:Nat->Option MV} (hd:bS nW w d gd) (hs:bS nW w s gs) (hne:s≠d):ag Tryz.prog 112 #[.map (some d),.map (some s)] w (λ v w'=>v=.tuple #[]/\bS nW w' d (orM gs gd)/\GB (some d) w w'):=by
 refine au ah mixed Tryz.func112 rfl rfl ?_;obtain ⟨l,hl,hw⟩:=hs.walk;refine ⟨l,hl,λ w1 it i1 g1 l1=>?_⟩;obtain ⟨hm1,hm2⟩:=hw i1.nodup;have hdo:=hd.obj;refine ⟨λ n q w'=>∃ (todo:List (Int×Value)) (cur:Option (Int×Value)) (g:Nat->Option MV),n=todo.length/\q=[(0,.map (some d)),(7,Ptt it)]/\mD w' it s l todo cur/\bS nW w' d g/\GB (some d) w w'/\(∀ k,g k=orM gs gd k\/(g k=gd k/\∃ v,((k:Int),v)∈todo))/\∀ p∈todo,p∈l,⟨_,_,⟨l,none,gd,rfl,rfl,i1,hd.keep (λ _ _ h=>h.kz g1.kz) (g1.block _ hd.lt nofun),g1.weak,?_,λ _ h=>h⟩,rfl,rfl,trivial⟩,?_⟩
 ·intro k
  cases hk:gs k with
  | none=>exact .inl (by unfold orM;rw [hk];rfl)
  | some x=>exact .inr ⟨rfl,by obtain ⟨v,h,_⟩:=hm2 k x hk;exact ⟨v,h⟩⟩
 rintro n q w2 ⟨todo,cur,g,rfl,rfl,i2,hg,gg,hinv,hsub⟩;refine ⟨s,l,todo,cur,i2,λ e0=>?_,?_⟩
 ·subst e0
  have:g=orM gs gd:=funext λ k=>(hinv k).elim id λ h=>by obtain ⟨_,_,h⟩:=h;cases h
  rw [<- this];exact ⟨rfl,hg,gg⟩
 ·rintro i ⟨pk,pv⟩ w3 hi i3 g3
  obtain ⟨k,x,rfl,mH,rv,dv,rfl,hr⟩:=hm1 _ (hsub _ (List.mem_of_getElem? hi));obtain ⟨ra,rn,rc,da,dn,dc,rfl,rfl⟩:=hr.sl;have hil:i<todo.length:=(List.getElem?_eq_some_iff.1 hi).1;have Oi:it<w3.heap.size:=by obtain ⟨_,_,_,_,h⟩:=i3.it;exact ae h
  have slt:s<w3.heap.size:=Nat.lt_of_lt_of_le (Nat.lt_of_lt_of_le hs.lt gg.size) g3.size;have Vf:it≠d:=λ e=>by have:=hd.lt;omega
  refine ⟨s,l,_,_,i3,λ w4 b4 m4 g4 l4=>⟨_,_,_,m4,rfl,rfl,λ w5 m5 g5=>?_⟩⟩;have tN:GB none w3 w5:=g4.new g5 l4;have k23:Kz w2 w3:=g3.Aj λ c t _ hh=>by obtain ⟨_,_,_,_,h⟩:=i2.it;rw [h] at hh;cases hh
  have hg3:bS nW w3 d g:=hg.keep (λ _ _ h=>h.kz k23) (g3.block _ hg.lt λ e=>Vf (Option.some.inj e).symm);have hg5:bS nW w5 d g:=hg3.keep (λ _ _ h=>h.kz tN.kz) (tN.block _ hg3.lt nofun);have gg5:GB (some d) w w5:=(gg.news g3 l1).trans tN.weak;have Vg:=hg5.obj;obtain ⟨f,e1,e2,e3⟩:=hg5;refine ⟨_,_,m5,jC x (.slice ra rn rc) (.slice da dn dc),rfl,rfl,f,e1,λ w6 m6 g6=>?_⟩;have k56:Kz w5 w6:=g6.Aj λ c t _ hh=>by obtain ⟨_,_,h⟩:=Vg;rw [h] at hh;cases hh
  have N9:Kz w w5:=gg5.Aj λ c t _ hh=>by obtain ⟨_,_,h⟩:=hdo;rw [h] at hh;cases hh
  have hv6:nW w6 (.agg (jC x (.slice ra rn rc) (.slice da dn dc)).toArray) x:=⟨_,_,rfl,(hr.kz N9).kz k56⟩;refine ⟨_,_,⟨todo.eraseIdx i,_,upd g k (some x),rfl,rfl,i3.keep ((g6.block _ (Nat.lt_of_lt_of_le Oi tN.size) λ e=>Vf (Option.some.inj e)).trans (tN.block _ Oi nofun)) ((g6.block _ (Nat.lt_of_lt_of_le slt tN.size) λ e=>hne (Option.some.inj e)).trans (tN.block _ slt nofun)),bS.put (λ _ _ h=>h.kz k56) e2 e3 hv6 m6,gg5.trans g6,?_,λ p hp=>hsub p (List.mem_of_mem_eraseIdx hp)⟩,⟨rfl,rfl,trivial⟩,?_⟩
  ·intro k'
   unfold upd;by_cases e:k'=k
   ·subst e
    rw [if_pos rfl];exact .inl (by unfold orM;rw [mH];rfl)
   ·rw [if_neg e]
    rcases hinv k' with h | ⟨h,v,hv⟩
    ·exact .inl h
    ·exact .inr ⟨h,v,mem_erase hv hi λ e'=>e (by have:=congrArg Prod.fst e';dsimp only at this;omega)⟩
  ·rw [List.length_eraseIdx,if_pos hil];omega
def kD (A:aT) (R:MR) (i:Nat):MR:=if 2*pc (iW R.sc.prom i) > R.sc.sz then nE A { R with sc:={ R.sc with prom:=iW R.sc.prom i } } else { R with sc:={ R.sc with prom:=iW R.sc.prom i } }
section
variable {A:aT} (HA:bK A) {Λ:bV} {w:World} {br:Nat} {R:MR}
omit HA in
theorem Ok.prom (ho:Ok A R) {i:Nat} (hi:i<5):Ok A { R with sc:={ R.sc with prom:=iW R.sc.prom i } }:=⟨ho.sz,ho.i,ho.st,ho.kn,ho.pp,ho.vt,ho.wv,ho.mt,ho.ac,uU ho.pr hi,ho.lg,ho.lc,ho.nx,ho.sn⟩
include HA
theorem Ok.yE (ho:Ok A R) {i:Nat} (hi:i<5):Ok A (kD A R i)/\(kD A R i).out.length<=R.out.length+20000/\(kD A R i).sc.i=R.sc.i/\(kD A R i).sc.sz=R.sc.sz:=by
 unfold kD;split
 ·exact (ho.prom hi).lead HA
 ·exact ⟨ho.prom hi,Nat.le_add_right _ _,rfl,rfl⟩
theorem Me (h:Wk Λ br R w) (ho:Ok A R) {i:Nat} (hi:i<5) (hb:R.out.length<=840000):ag Tryz.prog 157 #[Ptt br,.int .u8 i] w (λ v w'=>v=.tuple #[]/\Wk Λ br (kD A R i) w'/\Kz w w'):=by
 obtain ⟨a,h⟩:=h;refine au ah mixed Tryz.func157 rfl rfl ?_;refine ⟨_,_,h.ri.mem,_,rfl,_,LV w _ i ho.pr hi,?_⟩;rintro _ w1 ⟨rfl,rfl⟩;refine ⟨_,_,_,h.ri.mem,rfl,rfl,λ w2 m2 g2=>?_⟩;have h2:=h.cell (s':={ R.sc with prom:=iW R.sc.prom i }) m2 g2;have k2:=h.ri.kz h.ri.jb g2;refine ⟨by kernel_rfl,_,_,h2.ri.mem,_,rfl,_,_,h2.ri.mem,_,rfl,_,LU w2 _ _ (uU ho.pr hi),?_⟩;rintro _ w3 ⟨rfl,rfl⟩;refine aj (λ d=>?_) (λ d=>?_)
 ·have d1:2*pc (iW R.sc.prom i) > R.sc.sz:=of_decide_eq_true d
  have em:kD A R i=nE A { R with sc:={ R.sc with prom:=iW R.sc.prom i } }:=if_pos d1;rw [em];refine ⟨_,WX HA ⟨_,h2⟩ (ho.prom hi) hb,?_⟩;rintro _ w4 ⟨rfl,h4,k4⟩;exact ⟨rfl,h4,k2.trans k4⟩
 ·have d1:¬ 2*pc (iW R.sc.prom i) > R.sc.sz:=of_decide_eq_false d
  have em:kD A R i={ R with sc:={ R.sc with prom:=iW R.sc.prom i } }:=if_neg d1;rw [em];exact ⟨rfl,⟨_,h2⟩,k2⟩
end
def qx (R:MR):MR:={ bZ R with sc:={ (bZ R).sc with role:=1 },met:=orM (bZ R).cB (bZ R).met }
def mJ (A:aT) (R:MR):MR:=if R.sc.sz=1\/R.sc.seen≠4294967295 then kD A (qx R) R.sc.i else R
def lN (g:Nat->Option MV) (v:MV):Nat->Option MV:=match g v.slot with
 | none=>upd g v.slot (some v)
 | some o=>if o.b.lt v.b=true then upd g v.slot (some v) else g
section
variable {A:aT} {R:MR}
theorem Cm (R:MR):(bZ R).sc.sz=R.sc.sz/\(bZ R).sc.i=R.sc.i/\(bZ R).out=R.out/\(bZ R).met=R.met/\(bZ R).cB=R.cB:=by
 unfold bZ;split
 ·exact ⟨rfl,rfl,rfl,rfl,rfl⟩
 ·exact ⟨rfl,rfl,rfl,rfl,rfl⟩
theorem Ok.raise (ho:Ok A R):Ok A (bZ R):=by
 have:=ho.sn;unfold bZ;split
 ·exact ho
 ·rename_i h
  exact ⟨ho.sz,ho.i,ho.st,ho.kn,ho.pp,ho.vt,ho.wv,ho.mt,ho.ac,ho.pr,ho.lg,ho.lc,ho.nx,by show R.sc.seen+1<=_;omega,by show R.sc.seen+1<=_;omega,ho.sn.2.2⟩
theorem Ok.Il (ho:Ok A R):Ok A (qx R):=by
 have o:=ho.raise;refine ⟨o.sz,o.i,o.st,o.kn,o.pp,o.vt,o.wv,λ k v h=>?_,o.ac,o.pr,o.lg,o.lc,o.nx,o.sn⟩;have h:orM (bZ R).cB (bZ R).met k=some v:=h;unfold orM at h;cases hv:(bZ R).cB k with
 | none=>rw [hv] at h;exact o.mt k v h
 | some x=>rw [hv] at h;exact o.vt k v (hv.trans h)
end
section
variable {A:aT} (HA:bK A) {Λ:bV} {w:World} {br:Nat} {R:MR}
include HA
theorem Ok.eD (ho:Ok A R):Ok A (mJ A R)/\(mJ A R).out.length<=R.out.length+20000/\(mJ A R).sc.i=R.sc.i/\(mJ A R).sc.sz=R.sc.sz:=by
 unfold mJ;obtain ⟨r1,r2,r3,_⟩:=Cm R;split
 ·have hi:=ho.i
  have hz:=ho.sz;obtain ⟨h1,h2,h3,h4⟩:=ho.Il.yE HA (i:=R.sc.i) (by omega);have e:(qx R).out=R.out:=r3;rw [e] at h2;exact ⟨h1,h2,h3.trans r2,h4.trans r1⟩
 ·exact ⟨ho,Nat.le_add_right _ _,rfl,rfl⟩
theorem WY (h:Wk Λ br R w) (ho:Ok A R) (hb:R.out.length<=840000):ag Tryz.prog 107 #[Ptt br] w (λ v w'=>v=.tuple #[]/\Wk Λ br (mJ A R) w'/\Kz w w'):=by
 refine au ah mixed Tryz.func107 rfl rfl ?_;refine ⟨_,Tp h ho.sn.1,?_⟩;rintro _ w1 ⟨rfl,h1,k1⟩;obtain ⟨r1,r2,r3,r4,r5⟩:=Cm R;have hi:=ho.i;have hz:=ho.sz;refine aj (λ d=>?_) (λ d=>?_)
 ·have d1:¬ (R.sc.sz=1\/R.sc.seen≠4294967295):=λ e=>by simp [e] at d
  have em:mJ A R=R:=if_neg d1;have er:bZ R=R:=if_pos (.inr (by omega));rw [er] at h1;rw [em];exact ⟨rfl,h1,k1⟩
 ·have d1:R.sc.sz=1\/R.sc.seen≠4294967295:=by
   by_cases e:R.sc.sz=1\/R.sc.seen≠4294967295
   ·exact e
   ·simp [e] at d
  have em:mJ A R=kD A (qx R) R.sc.i:=if_pos d1;rw [em];obtain ⟨a,h1⟩:=h1;refine ⟨_,_,_,h1.ri.mem,rfl,rfl,λ w2 m2 g2=>?_⟩;have h2:=h1.cell (s':={ (bZ R).sc with role:=1 }) m2 g2;have k2:=h1.ri.kz h1.ri.jb g2;have hne:a.vm≠a.mt:=by have:=h2.ri.sep;simp at this;omega
  refine ⟨by kernel_rfl,_,_,h2.ri.mem,_,rfl,_,_,h2.ri.mem,_,rfl,_,FQ h2.ri.mt h2.ri.vm hne,?_⟩;rintro _ w3 ⟨rfl,hm3,g3⟩;have h3:Wa Λ br (qx R) a w3:=h2.step h2.ri.mh g3 (h2.ri.Qa g3 hm3);have k3:=h2.ri.kz h2.ri.mh g3;have ec:=Me HA ⟨_,h3⟩ ho.Il (i:=R.sc.i) (by omega) (by show (bZ R).out.length<=_;rw [r3];exact hb);have ei:(qx R).sc.i=R.sc.i:=r2;rw [<- ei] at ec;refine ⟨_,_,h3.ri.mem,_,rfl,_,ec,?_⟩;rintro _ w4 ⟨rfl,h4,k4⟩;rw [ei] at h4;exact ⟨rfl,h4,((k1.trans k2).trans k3).trans k4⟩
end
def gp (g:Nat->Option MV) (vs:List MV):Nat->Option MV:=vs.foldl lN g
theorem wR {g:Nat->Option MV} {v:MV} (h:g v.slot=none):lN g v=upd g v.slot (some v):=by unfold lN;rw [h]
theorem yF {g:Nat->Option MV} {v o:MV} (h:g v.slot=some o) (hb:o.b.lt v.b=true):lN g v=upd g v.slot (some v):=by unfold lN;rw [h];exact if_pos hb
theorem Az {g:Nat->Option MV} {v o:MV} (h:g v.slot=some o) (hb:o.b.lt v.b=false):lN g v=g:=by unfold lN;rw [h];exact if_neg (by rw [hb];decide)
def jd (A:aT) (R:MR) (f:Nat×Nat) (b:bF) (vs:List MV):MR:=if R.sc.role≠1\/b≠R.sc.b then R else kD A { R with met:=gp R.met vs } f.2
theorem wS {g:Nat->Option MV} {vs:List MV} {k:Nat} {v:MV} (h:vs[k]? = some v):gp g (vs.take (k+1))=lN (gp g (vs.take k)) v:=by
 unfold gp;rw [List.take_add_one,h,Option.toList_some,List.foldl_append];rfl
theorem AA {P:Nat->MV->Prop}:∀ (vs:List MV) {g:Nat->Option MV},(∀ k v,g k=some v->P k v)->(∀ v∈vs,P v.slot v)->∀ k v,gp g vs k=some v->P k v
 | [],g,hg,_=>hg
 | x::vs,g,hg,hv=>by
  have:∀ k v,lN g x k=some v->P k v:=by
   cases h:g x.slot with
   | none=>rw [wR h];exact lY hg (hv x (List.mem_cons_self ..))
   | some o =>
    cases hb:o.b.lt x.b with
    | true=>rw [yF h hb];exact lY hg (hv x (List.mem_cons_self ..))
    | false=>rw [Az h hb];exact hg
  exact AA vs this λ v h=>hv v (List.mem_cons_of_mem _ h)
theorem WZ {l:List MV} {ps:List (Value×Value)} (_hl:ps.length=l.length) {k:Nat} {x:MV} {p:Value×Value} (hx:l[k]? = some x) (hp:ps[k]? = some p):aL (List.zipWith (λ x p=>jC x p.1 p.2) l ps).flatten (k*20) 20=jC x p.1 p.2:=by
 have h:=jG (f:=λ q:MV×(Value×Value)=>jC q.1 q.2.1 q.2.2) (size:=20) (λ _=>rfl) (l.zip ps) k (x,p) (by rw [List.getElem?_zip_eq_some];exact ⟨hx,hp⟩);rw [<- h];congr 1
 rw [List.flatMap_def,List.map_zip_eq_zipWith];rfl
section
variable {A:aT} {R:MR}
theorem Ok.gp (ho:Ok A R) {vs:List MV} (hv:∀ v∈vs,A.gc v.c/\v.slot<60):Ok A { R with met:=gp R.met vs }:=⟨ho.sz,ho.i,ho.st,ho.kn,ho.pp,ho.vt,ho.wv,AA (P:=λ k (v:MV)=>A.gc v.c/\k<60/\v.slot=k) vs ho.mt λ v h=>⟨(hv v h).1,(hv v h).2,rfl⟩,ho.ac,ho.pr,ho.lg,ho.lc,ho.nx,ho.sn⟩
end
section
variable {A:aT} (HA:bK A) {Λ:bV} {w:World} {br:Nat} {R:MR}
include HA
theorem Oj (h:Wk Λ br R w) (ho:Ok A R) (f:Nat×Nat) (hf:f.2<5) (b:bF) {vs:List MV} (hv:∀ v∈vs,A.gc v.c/\v.slot<60) (hvl:vs.length<=1000000) {vv:Value} (hvs:bW w vv vs) (hb:R.out.length<=840000):ag Tryz.prog 116 #[Ptt br,.agg #[.int .u8 f.1,.int .u8 f.2],.agg (bC b).toArray,vv] w (λ v w'=>v=.tuple #[]/\Wk Λ br (jd A R f b vs) w'/\Kz w w'):=by
 have adt:=hvs;obtain ⟨va,vc,rfl⟩:=hvs.sl;refine au ah mixed Tryz.func116 rfl rfl ?_;intro w1 b1 m1 g1 l1 w2 b2 m2 g2 l2;have m1:=g2.get m1 nofun;have g:=g1.trans g2;have h20:=h.ax g;have h2:=h20;obtain ⟨a,h2⟩:=h2;refine ⟨by kernel_rfl,_,_,h2.ri.mem,_,rfl,aj (λ c=>?_) (λ c=>?_)⟩
 ·have c1:R.sc.role=1:=by simp at c;omega
  refine ⟨_,_,m2,_,rfl,rfl,_,_,h2.ri.mem,_,rfl,rfl,aj (λ d=>?_) (λ d=>?_)⟩
  ·have d1:b≠R.sc.b:=by rintro rfl;simp at d
   have em:jd A R f b vs=R:=if_pos (.inr d1);rw [em];exact ⟨rfl,h20,g.kz⟩
  ·have d1:b=R.sc.b:=by
    have e:b.n=R.sc.b.n/\b.id=R.sc.b.id:=by simp at d;omega
    exact bF.eq e.1 e.2
   have em:jd A R f b vs=kD A { R with met:=gp R.met vs } f.2:=if_neg (by rintro (e | e);exact e c1;exact e d1);rw [em];obtain ⟨ps,hpl,⟨Mf,Mg,hve,Ze,age,hvd⟩,hps⟩:=adt.kz g.kz;cases hve
   refine ⟨λ q s w3=>∃ (k:Nat),q=vs.length - k/\k<=vs.length/\s=[(0,Ptt br),(5,Ptt b1),(26,.slice va vs.length vc),(27,.int .i64 vs.length),(28,.int .i64 k)]/\Wk Λ br { R with met:=gp R.met (vs.take k) } w3/\Kz w2 w3,⟨_,_,⟨0,rfl,Nat.zero_le _,rfl,h20,Kz.refl _⟩,rfl,rfl,rfl,rfl,rfl,trivial⟩,?_⟩;rintro q s w3 ⟨k,rfl,hk,rfl,⟨a3,h3⟩,k3⟩;refine aj (λ e=>?_) (λ e=>?_)
   ·have e1:k<vs.length:=by simp at e;omega
    rcases hvd with ⟨_,h0⟩ | ⟨B,off,cs,rfl,hB,hcut⟩
    ·omega
    obtain ⟨x,hx⟩:∃ x,vs[k]? = some x:=⟨vs[k],by simp [e1]⟩;obtain ⟨⟨rv,dv⟩,hp⟩:∃ p,ps[k]? = some p:=⟨ps[k],by simp [hpl,e1]⟩;have hr:=(hps k x _ hx hp).kz k3;obtain ⟨ra,rn,rc,da,dn,dc,er,ed⟩:=hr.sl;dsimp only at er ed;subst er ed;have hB3:=k3 _ (by decide) _ _ hB;refine ⟨⟨by omega,by omega⟩,_,_,hB3,jC x (.slice ra rn rc) (.slice da dn dc),(Fz.elem hcut e1).trans (WZ hpl hx hp),rfl,λ w4 b4 m4 g4 l4=>⟨_,_,_,m4,rfl,rfl,λ w5 m5 g5=>?_⟩⟩;have tN:GB none w3 w5:=g4.new g5 l4;have h5:=h3.box tN m5 l4;have u5:=h3.qh l4;obtain ⟨ff,tO,e2',e3'⟩:=h5.ri.mt;refine ⟨by kernel_rfl,_,_,h5.ri.mem,_,rfl,_,_,m5,_,rfl,ff,tO,?_⟩;have hv5:∀ w',Kz w5 w'->nW w' (.agg (jC x (.slice ra rn rc) (.slice da dn dc)).toArray) x:=λ w' kk=>⟨_,_,rfl,(hr.kz tN.kz).kz kk⟩
    rcases jN e3' x.slot with ⟨n1,n2⟩ | ⟨o,v,n1,n2,rv,dv,rfl,hro⟩
    ·rw [n2]
     refine λ w6 b6 m6 g6 l6=>⟨⟨tO.keep (g6.block _ (h5.ri.lt h5.ri.mh) nofun),g6.get m5 nofun,(h5.ax g6).ri.mem,trivial⟩,⟨_,_,_,m6,rfl,rfl,λ w7 m7 g7=>?_⟩⟩
     have wo:GB none w5 w7:=g6.new g7 l6;have h7:=h5.ax wo;have pK:=wo.get m5 nofun;obtain ⟨f7,p1,p2,p3⟩:=h7.ri.mt;refine ⟨by kernel_rfl,_,_,h7.ri.mem,_,rfl,_,_,pK,_,rfl,_,_,pK,jC x (.slice ra rn rc) (.slice da dn dc),rfl,rfl,f7,p1,λ w8 m8 g8=>?_⟩;have k8:=h7.ri.kz h7.ri.mh g8;have h8:=h7.step h7.ri.mh g8 (h7.ri.Qa g8 (bS.put (λ _ _ h=>h.kz k8) p2 p3 (hv5 w8 (wo.kz.trans k8)) m8));refine ⟨by omega,_,_,⟨k+1,rfl,by omega,rfl,?_,k3.trans ((tN.kz.trans wo.kz).trans k8)⟩,⟨rfl,rfl,rfl,rfl,rfl,trivial⟩,by omega⟩;rw [wS hx,wR n1];exact Wk.drop ⟨_,h8⟩ u5
    ·rw [n2]
     obtain ⟨sF,JD,rc',pI,xG,pJ,rfl,rfl⟩:=hro.sl;refine λ w6 b6 m6 g6 l6=>⟨⟨tO.keep (g6.block _ (h5.ri.lt h5.ri.mh) nofun),g6.get m5 nofun,(h5.ax g6).ri.mem,trivial⟩,⟨_,_,_,m6,rfl,rfl,λ w7 m7 g7=>?_⟩⟩
     have wo:GB none w5 w7:=g6.new g7 l6;have pK:=wo.get m5 nofun;refine ⟨_,_,m7,bC o.b,rfl,rfl,_,_,pK,bC x.b,rfl,rfl,_,C8 w7 o.b x.b,?_⟩;rintro _ w8 ⟨rfl,g8⟩;have Cn:=wo.trans g8;have h8:=h5.ax Cn;have pK:=Cn.get m5 nofun;refine aj (λ j=>?_) (λ j=>?_)
     ·obtain ⟨f7,p1,p2,p3⟩:=h8.ri.mt
      refine ⟨by kernel_rfl,_,_,h8.ri.mem,_,rfl,_,_,pK,_,rfl,_,_,pK,jC x (.slice ra rn rc) (.slice da dn dc),rfl,rfl,f7,p1,λ w9 m9 g9=>?_⟩;have k9:=h8.ri.kz h8.ri.mh g9;have h9:=h8.step h8.ri.mh g9 (h8.ri.Qa g9 (bS.put (λ _ _ h=>h.kz k9) p2 p3 (hv5 w9 (Cn.kz.trans k9)) m9));refine ⟨by omega,_,_,⟨k+1,rfl,by omega,rfl,?_,k3.trans ((tN.kz.trans Cn.kz).trans k9)⟩,⟨rfl,rfl,rfl,rfl,rfl,trivial⟩,by omega⟩;rw [wS hx,yF n1 j];exact Wk.drop ⟨_,h9⟩ u5
     ·refine ⟨by omega,_,_,⟨k+1,rfl,by omega,rfl,?_,k3.trans (tN.kz.trans Cn.kz)⟩,⟨rfl,rfl,rfl,rfl,rfl,trivial⟩,by omega⟩
      rw [wS hx,Az n1 j];exact Wk.drop ⟨_,h8⟩ u5
   ·have e1:k=vs.length:=by simp at e;omega
    subst e1;rw [List.take_length] at h3;have zq:=k3 _ (by decide) _ _ m1;refine ⟨_,_,zq,_,rfl,_,Me HA ⟨_,h3⟩ (ho.gp hv) hf hb,?_⟩;rintro _ w4 ⟨rfl,h4,k4⟩;exact ⟨rfl,h4,(g.kz.trans k3).trans k4⟩
 ·have c1:R.sc.role≠1:=by simp at c;omega
  have em:jd A R f b vs=R:=if_pos (.inl c1);rw [em];exact ⟨rfl,h20,g.kz⟩
end
theorem Zf {α β:Type} {F:α->β->List Value} {size:Nat} (hF:∀ x y,(F x y).length=size) {l:List α} {ps:List β} {k:Nat} {x:α} {p:β} (hx:l[k]? = some x) (hp:ps[k]? = some p):aL (List.zipWith F l ps).flatten (k*size) size=F x p:=by
 have h:=jG (f:=λ q:α×β=>F q.1 q.2) (size:=size) (λ q=>hF q.1 q.2) (l.zip ps) k (x,p) (by rw [List.getElem?_zip_eq_some];exact ⟨hx,hp⟩);rw [<- h];congr 1
 rw [List.flatMap_def,List.map_zip_eq_zipWith];rfl
def oQ (enc:MM->ByteArray) (R:MR) (k:Nat):MR:=match R.props k with
 | some c=>Jt enc R k c
 | none=>R
def qy (enc:MM->ByteArray) (R:MR) (g:Nat):MR:=match (R.st.O.getD g (0,[])).2 with
 | []=>R
 | r::_=>lL enc R { aQ 9 with r:=r } (gG R.sc.g R.sc.i g R.sc.sz)
def iL (enc:MM->ByteArray) (R:MR) (n:Nat):MR:=(List.range n).foldl (oQ enc) R
def iY (enc:MM->ByteArray) (R:MR) (n:Nat):MR:=(List.range n).foldl (qy enc) R
def q9 (enc:MM->ByteArray) (R:MR):MR:=iY enc (iL enc R R.sc.next) R.st.O.length
theorem yG (enc:MM->ByteArray) (R:MR) (n:Nat):iL enc R (n+1)=oQ enc (iL enc R n) n:=by unfold iL;rw [List.range_succ,List.foldl_append];rfl
theorem yH (enc:MM->ByteArray) (R:MR) (n:Nat):iY enc R (n+1)=qy enc (iY enc R n) n:=by unfold iY;rw [List.range_succ,List.foldl_append];rfl
structure jP (R R':MR) (n:Nat):Prop where
 eq:R'={ R with out:=R'.out }
 len:R'.out.length<=R.out.length+n
theorem jP.snd {R R':MR} {n:Nat} (h:jP R R' n) (enc:MM->ByteArray) (m:MM) {tl:List (Nat×Nat)} (ht:tl.length<=5):jP R (lL enc R' m tl) (n+5):=by
 refine ⟨?_,by rw [jO];have:=h.len;omega⟩;have h1:lL enc R' m tl={ R' with out:=(lL enc R' m tl).out }:=rfl;rw [h1];have:=h.eq;generalize (lL enc R' m tl).out=o;rw [this]
theorem jP.weak {R R':MR} {n m:Nat} (h:jP R R' n) (hm:n<=m):jP R R' m:=⟨h.eq,by have:=h.len;omega⟩
theorem jP.f {R R':MR} {n:Nat} (h:jP R R' n):R'.sc=R.sc/\R'.props=R.props/\R'.st=R.st:=by rw [h.eq];exact ⟨rfl,rfl,rfl⟩
theorem jP.ok {A:aT} {R R':MR} {n:Nat} (h:jP R R' n) (o:Ok A R):Ok A R':=by
 rw [h.eq];exact ⟨o.sz,o.i,o.st,o.kn,o.pp,o.vt,o.wv,o.mt,o.ac,o.pr,o.lg,o.lc,o.nx,o.sn⟩
theorem wu (enc:MM->ByteArray) (R:MR) (hz:R.sc.sz<=5):∀ n,jP R (iL enc R n) (5*n)
 | 0=>⟨rfl,Nat.le_refl _⟩
 | n+1=>by
  have ih:=wu enc R hz n;rw [yG];unfold oQ;split
  ·have:=iX (iL enc R n).sc.g (iL enc R n).sc.i (iL enc R n).sc.g (iL enc R n).sc.sz
   rw [ih.f.1] at this;exact ih.snd _ _ (by rw [ih.f.1];omega)
  ·exact ih.weak (by omega)
theorem wy (enc:MM->ByteArray) (R:MR) (hz:R.sc.sz<=5):∀ n,jP R (iY enc R n) (5*n)
 | 0=>⟨rfl,Nat.le_refl _⟩
 | n+1=>by
  have ih:=wy enc R hz n;rw [yH];unfold qy;split
  ·exact ih.weak (by omega)
  ·have:=iX (iY enc R n).sc.g (iY enc R n).sc.i n (iY enc R n).sc.sz
   rw [ih.f.1] at this;exact ih.snd _ _ (by rw [ih.f.1];omega)
theorem TB {w:World} {vO:Value} {O:List (Int×List Rg)} (h:∃ qs:List Value,qs.length=O.length/\Fz w 103 2 vO O.length (List.zipWith (λ (o:Int×List Rg) q=>[Value.int .u32 o.1,q]) O qs).flatten/\∀ (i:Nat) (o:Int×List Rg) (q:Value),O[i]? = some o->qs[i]? = some q->tL w q o.2) {p:Nat} (hp:p<O.length):∃ b off cap cs n q,vO=.slice (some ⟨b,off,none⟩) O.length cap/\O.length<=cap/\w.heap[b]? = some (.cells cs 103)/\aL cs.toList (off+p*2) 2=[.int .u32 n,q]/\tL w q (O.getD p (0,[])).2:=by
 obtain ⟨qs,h1,⟨a,c,rfl,h3,h4,h5⟩,h6⟩:=h;rcases h5 with ⟨_,h0⟩ | ⟨b,off,cs,rfl,hb,hcut⟩
 ·omega
 obtain ⟨o,ho⟩:∃ o,O[p]? = some o:=⟨O[p],by simp [hp]⟩;obtain ⟨q,hq⟩:∃ q,qs[p]? = some q:=⟨qs[p],by simp [h1,hp]⟩;refine ⟨b,off,c,cs,o.1,q,rfl,h3,hb,(Fz.elem hcut hp).trans (Zf (F:=λ (o:Int×List Rg) q=>[Value.int .u32 o.1,q]) (λ _ _=>rfl) ho hq),?_⟩;rw [List.getD_eq_getElem?_getD,ho];exact h6 p o q ho hq
section
variable {A:aT} (HA:bK A) {Λ:bV} {w:World} {br:Nat} {R:MR}
include HA
theorem GL (h:Wk Λ br R w) (ho:Ok A R) (hb:R.out.length<=880000):ag Tryz.prog 110 #[Ptt br] w (λ v w'=>v=.tuple #[]/\Wk Λ br (q9 A.enc R) w'/\Kz w w'):=by
 have h0:=h;obtain ⟨a,h⟩:=h;have hz:=ho.sz;have hnx:=ho.nx;have hol:=HA.ol _ ho.st;refine au ah mixed Tryz.func110 rfl rfl ?_;refine ⟨_,_,h.ri.mem,_,rfl,?_⟩;refine ⟨λ n s w'=>∃ (k:Nat),n=R.sc.next - k/\k<=R.sc.next/\s=[(0,Ptt br),(10,.int .u32 R.sc.next),(11,.int .u32 k)]/\Wk Λ br (iL A.enc R k) w'/\Kz w w',⟨_,_,⟨0,rfl,Nat.zero_le _,rfl,h0,Kz.refl _⟩,rfl,rfl,rfl,trivial⟩,?_⟩;rintro n s w1 ⟨k,rfl,hk,rfl,h10,k1⟩;have h1:=h10;obtain ⟨a1,h1⟩:=h1;have O1:=wu A.enc R hz k;obtain ⟨f1,f2,f3⟩:=O1.f;have lo1:=O1.len;refine aj (λ c=>?_) (λ c=>?_)
 ·have c1:k<R.sc.next:=by simp at c;omega
  obtain ⟨f,e1,e2,e3⟩:=h1.ri.pp;refine ⟨_,_,h1.ri.mem,_,rfl,f,e1,λ w2 b2 m2 g2 l2=>?_⟩;rcases jN e3 k with ⟨n1,n2⟩ | ⟨y,v,n1,n2,rv,dv,rfl,hr⟩
  ·rw [n2]
   refine ⟨_,_,_,m2,rfl,rfl,λ w3 m3 g3=>?_⟩;have g13:GB none w1 w3:=g2.new g3 l2;refine ⟨by omega,_,_,⟨k+1,rfl,by omega,rfl,?_,k1.trans g13.kz⟩,⟨rfl,rfl,rfl,trivial⟩,by omega⟩;rw [yG];unfold oQ;rw [n1];exact h10.ax g13
  ·rw [n2]
   obtain ⟨ra,rn,rc,da,dn,dc,rfl,rfl⟩:=hr.sl;refine ⟨_,_,_,m2,rfl,rfl,λ w3 m3 g3=>?_⟩;have g13:GB none w1 w3:=g2.new g3 l2;refine ⟨_,_,m3,dx y (.slice ra rn rc) (.slice da dn dc),rfl,rfl,_,Vb HA.mG (h10.ax g13) (by rw [f1];exact hz) (c:=y) ⟨_,_,rfl,hr.kz g13.kz⟩ (by omega),?_⟩;rintro _ w4 ⟨rfl,h4,k4⟩;refine ⟨by omega,_,_,⟨k+1,rfl,by omega,rfl,?_,(k1.trans g13.kz).trans k4⟩,⟨rfl,rfl,rfl,trivial⟩,by omega⟩;rw [yG];unfold oQ;rw [n1];exact h4
 have c1:k=R.sc.next:=by simp at c;omega
 subst c1;have o1:Ok A (iL A.enc R R.sc.next):=O1.ok ho;have eR:q9 A.enc R=iY A.enc (iL A.enc R R.sc.next) (iL A.enc R R.sc.next).st.O.length:=by unfold q9;rw [f3]
 have agf:(iL A.enc R R.sc.next).st.O.length<=200:=by rw [f3];exact hol
 have hz1:(iL A.enc R R.sc.next).sc.sz<=5:=by rw [f1];exact hz
 rw [eR];generalize iL A.enc R R.sc.next=R1 at *;obtain ⟨vm,wm,kn,mt,pp,ac,lg,ob,sT,sM,sD,sO,sI⟩:=a1;have hO:=h1.ri.st.O;obtain ⟨oa,oc,rfl⟩:∃ oa oc,sO=.slice oa R1.st.O.length oc:=by obtain ⟨_,_,⟨a,c,h,_⟩,_⟩:=hO;exact ⟨a,c,h⟩
 refine ⟨_,_,h1.ri.mem,_,rfl,?_⟩;refine ⟨λ n s w'=>∃ (k:Nat),n=R1.st.O.length - k/\k<=R1.st.O.length/\s=[(0,Ptt br),(33,.slice oa R1.st.O.length oc),(34,.int .i64 R1.st.O.length),(35,.int .i64 k)]/\Wk Λ br (iY A.enc R1 k) w'/\Kz w1 w',⟨_,_,⟨0,rfl,Nat.zero_le _,rfl,h10,Kz.refl _⟩,rfl,rfl,rfl,rfl,trivial⟩,?_⟩;rintro n s w2 ⟨k,rfl,hk,rfl,h2,k2⟩;have O2:=wy A.enc R1 hz1 k;obtain ⟨q1,q2,q3⟩:=O2.f;have lo2:=O2.len;refine aj (λ d=>?_) (λ d=>?_)
 ·have d1:k<R1.st.O.length:=by simp at d;omega
  obtain ⟨B,off,cap,cs,nn,q,ee,hcap,hB,hcut,hQ⟩:=TB hO d1;cases ee
  have Vh:=hQ.kz k2;obtain ⟨qa,qn,qc,rfl⟩:∃ qa qn qc,q=.slice qa qn qc:=by obtain ⟨_,_,⟨a,c,h,_⟩,_⟩:=hQ;exact ⟨a,_,c,h⟩
  refine ⟨⟨by omega,by omega⟩,_,_,k2 _ (by decide) _ _ hB,[.int .u32 nn,.slice qa qn qc],hcut,rfl,λ w3 b3 m3 g3 l3=>⟨_,_,_,m3,rfl,rfl,λ w4 m4 g4=>?_⟩⟩;have g24:GB none w2 w4:=g3.new g4 l3;have h4:=h2.ax g24;refine ⟨_,_,m4,_,rfl,?_⟩;cases hl:(R1.st.O.getD k (0,[])).2 with
  | nil =>
   rw [hl] at Vh;obtain ⟨_,_,⟨_,_,he,_⟩,_⟩:=Vh;cases he
   refine ⟨by omega,_,_,⟨k+1,rfl,by omega,rfl,?_,k2.trans g24.kz⟩,⟨rfl,rfl,rfl,rfl,trivial⟩,by omega⟩;rw [yH];unfold qy;rw [q3,hl];exact h4
  | cons r rs =>
   rw [hl] at Vh;obtain ⟨b,o,qz,cq,rv,dv,he,hqc,hbq,hcq,hr⟩:=Vh.hd;cases he
   have e2:iY A.enc R1 (k+1)=lL A.enc (iY A.enc R1 k) { aQ 9 with r:=r } (gG (iY A.enc R1 k).sc.g (iY A.enc R1 k).sc.i k (iY A.enc R1 k).sc.sz):=by
    rw [yH];unfold qy;rw [q3,hl]
   refine aj (λ e=>?_) (λ e=>?_)
   ·have Zg:=g24.get hbq nofun
    refine ⟨by kernel_rfl,_,_,m4,_,rfl,⟨by omega,by omega⟩,_,_,Zg,dU r rv dv,hcq,rfl,.inl ⟨by omega,_,Am h4 k (by rw [q1];exact hz1),?_⟩⟩;rintro v w5 ⟨hv,g5⟩;have hol:=iX (iY A.enc R1 k).sc.g (iY A.enc R1 k).sc.i k (iY A.enc R1 k).sc.sz;rw [q1] at hol;refine ⟨⟨g5.get Zg nofun,g5.get m4 nofun,trivial⟩,_,mX HA.mG (h4.ax g5) (m:={ aQ 9 with r:=r }) ⟨_,_,_,_,_,rfl,aM.zero _,bW.zero _,(hr.kz g24.kz).kz g5.kz⟩ hv (by rw [q1];omega),?_⟩;rintro _ w6 ⟨rfl,h6,k6⟩;refine ⟨by omega,_,_,⟨k+1,rfl,by omega,rfl,?_,((k2.trans g24.kz).trans g5.kz).trans k6⟩,⟨rfl,rfl,rfl,rfl,trivial⟩,by omega⟩;rw [e2];exact h6
   ·exfalso;simp at e
 ·have d1:k=R1.st.O.length:=by simp at d;omega
  subst d1;exact ⟨rfl,h2,k1.trans k2⟩
end
end
end Go.Proofs.YtignemioillaiaaGreat
