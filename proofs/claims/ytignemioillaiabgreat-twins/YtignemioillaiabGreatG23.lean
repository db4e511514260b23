/- A replica at work (7): messages; tell, acknowledge, sendAccept, refuse, takeReject. -/
import Derived.Test.YtignemioillaiabGreatG22
namespace Go.Proofs.YtignemioillaiabGreat
set_option maxHeartbeats 8000000
set_option maxRecDepth 100000
section
open Go Go.Conc
structure MM where
 kind:Int
 q:bH
 p:aD
 b:dh
 s:Nat
 c:MC
 vs:List MV
 r:Rg
 (peer seq:Int)
def qb:bH:=⟨0,0,0,0,0,0,0⟩
def rY:aD:=⟨0,0,0,0,false,0,0⟩
def pE:Rg:=⟨0,0,0,0,0,[],[]⟩
def kQ:MC:=⟨0,qb,pE,0,0⟩
def bf (k:Int):MM:=⟨k,qb,rY,⟨0,0⟩,0,kQ,[],pE,0,0⟩
def dK (m:MM) (rv dv vv rv' cB:Value):List Value:=(.int .u8 m.kind::m.q.cells)++m.p.cells++[.int .u32 m.b.n,.int .u8 m.b.id,.int .u32 m.s]++cK m.c rv dv++[vv]++dN m.r rv' cB++[.int .u8 m.peer,.int .u32 m.seq]
def bY (w:World) (v:Value) (l:List MV):Prop:=∃ ps:List (Value×Value),ps.length=l.length∧Fz w 178 20 v l.length (List.zipWith (fun x p=>jm x p.1 p.2) l ps).flatten∧∀ (i:Nat) (x:MV) (p:Value×Value),l[i]? = some x→ps[i]? = some p→aP w x.c.r p.1 p.2
theorem bY.kz {w w':World} {v:Value} {l:List MV} (h:bY w v l) (k:Kz w w'):bY w' v l:=by
 obtain ⟨vs,h1,h2,h3⟩:=h;exact ⟨vs,h1,h2.kz k (by decide),fun i r p hr hp=>(h3 i r p hr hp).kz k⟩
def zW (w:World) (v:Value) (m:MM):Prop:=∃ rv dv vv rv' cB,v=.agg (dK m rv dv vv rv' cB).toArray∧aP w m.c.r rv dv∧bY w vv m.vs∧aP w m.r rv' cB
theorem zW.kz {w w':World} {v:Value} {m:MM} (h:zW w v m) (k:Kz w w'):zW w' v m:=by
 obtain ⟨rv,dv,vv,rv',cB,h1,h2,h3,h4⟩:=h;exact ⟨rv,dv,vv,rv',cB,h1,h2.kz k,h3.kz k,h4.kz k⟩
theorem aP.zero (w:World):aP w pE (.slice none 0 0) (.slice none 0 0):=⟨Fz.nil _ _ _,Fz.nil _ _ _⟩
theorem bY.zero (w:World):bY w (.slice none 0 0) []:=⟨[],rfl,Fz.nil _ _ _,fun i x p h=>by simp at h⟩
def Fa (enc:MM→ByteArray):Prop:=∀ w v m,zW w v m→af Tryz.prog 43 #[v] w (fun v w'=>(∃ e,v=.tuple #[.string (enc m),.int .i64 e])∧GB none w w')
def nN (enc:MM→ByteArray) (R:MR) (m:MM) (tl:List (Nat×Nat)):MR:=jA R (enc m) tl
section
variable {enc:MM→ByteArray} (HM:Fa enc) {Λ:bN} {w:World} {br:Nat} {R:MR}
include HM
theorem mR (h:Wk Λ br R w) {v:Value} {m:MM} (hv:zW w v m) {tv:Value} {tl:List (Nat×Nat)} (ht:Fz w 48 2 tv tl.length (BL tl)) (hb:R.out.length+tl.length≤1000000):af Tryz.prog 90 #[.pointer (some ⟨br,0,none⟩),v,tv] w (fun v w'=>v=.tuple #[]∧Wk Λ br (nN enc R m tl) w'∧Kz w w'):=by
 have hv0:=hv;obtain ⟨rv,dv,vv,rv',cB,rfl,_⟩:=hv;exact VW h rfl (fun w1 k1=>HM w1 _ m (hv0.kz k1)) ht hb
def qd (enc:MM→ByteArray) (R:MR) (p:aD):MR:=nN enc R { bf 2 with p:=p } [(255,p.c.toNat)]
theorem qW (h:Wk Λ br R w) {p:aD} (hp:0≤p.c) (hb:R.out.length≤900000):af Tryz.prog 136 #[.pointer (some ⟨br,0,none⟩),.agg p.cells.toArray] w (fun v w'=>v=.tuple #[]∧Wk Λ br (qd enc R p) w'∧Kz w w'):=by
 refine ah au mixed Tryz.func136 rfl rfl ?_;intro w1 b1 m1 g1 l1;refine ⟨_,_,m1,_,rfl,fun w2 b2 m2 g2 l2=>⟨_,_,_,m2,rfl,rfl,fun w3 m3 g3=>?_⟩⟩;have g13:GB none w1 w3:=⟨g3.os.trans g2.os,g3.out.trans g2.out,Nat.le_trans g2.size g3.size,fun x hx _=>(g3.block x (Nat.lt_of_lt_of_le hx g2.size) (fun e=>by cases e;omega)).trans (g2.block x hx nofun)⟩;refine ⟨_,_,g13.get m1 nofun,_,rfl,rfl,_,_,m3,_,rfl,rfl,fun w4 b4 m4 g4 l4=>?_⟩;have g:=(g1.trans g13).trans g4;refine ⟨_,mR HM (h.ax g) (m:={ bf 2 with p:=p }) ⟨_,_,_,_,_,rfl,aP.zero _,bY.zero _,aP.zero _⟩ (tl:=[(255,p.c.toNat)]) ⟨_,_,rfl,Nat.le_refl _,rfl,.inr ⟨_,_,_,rfl,m4,?_⟩⟩ (by simp;omega),?_⟩
 ·show [Value.int .u8 255,Value.int .u8 p.c]=[.int .u8 255,.int .u8 (p.c.toNat:Int)]
  rw [Int.toNat_of_nonneg hp]
 ·rintro v w5 ⟨rfl,h5,k5⟩
  exact ⟨rfl,h5,g.kz.trans k5⟩
def zX (enc:MM→ByteArray) (R:MR) (src:Nat) (tl:List (Nat×Nat)):MR:=nN enc R { bf 10 with peer:=R.sc.g,seq:=R.st.I.getD src 0 } tl
theorem Pz (h:Wk Λ br R w) {src:Nat} (hs:src<R.st.I.length) {tv:Value} {tl:List (Nat×Nat)} (ht:Fz w 48 2 tv tl.length (BL tl)) (hb:R.out.length+tl.length≤1000000):af Tryz.prog 146 #[.pointer (some ⟨br,0,none⟩),.int .u8 src,tv] w (fun v w'=>v=.tuple #[]∧Wk Λ br (zX enc R src tl) w'∧Kz w w'):=by
 have h0:=h;obtain ⟨a,h⟩:=h;obtain ⟨vm,wm,kn,mt,pp,ac,lg,ob,sT,sM,sD,sO,sI⟩:=a;obtain ⟨ia,ic,rfl,i1,i2,i3⟩:=h.ri.st.I;rcases i3 with ⟨_,i3⟩ | ⟨B,off,cs,rfl,hB,hcut⟩
 ·omega
 refine ah au mixed Tryz.func146 rfl rfl ?_;obtain ⟨x,hx⟩:∃ x,R.st.I[src]? = some x:=⟨R.st.I[src],by simp [hs]⟩;have hx2:cs.toList[off+src]? = some (.int .u32 x):=by
  have h1:(aO cs.toList off (R.st.I.length*1))[src]? = some (.int .u32 x):=by rw [hcut,List.getElem?_map,hx];rfl
  unfold aO at h1;rw [List.getElem?_take,if_pos (by omega),List.getElem?_drop] at h1;exact h1
 refine ⟨by kernel_rfl,_,_,h.ri.mem,_,rfl,_,_,h.ri.mem,_,rfl,⟨by omega,by omega⟩,_,_,hB,.int .u32 x,by show cs.toList[off+src*1]? = _;rw [Nat.mul_one];exact hx2,?_⟩;refine ⟨_,mR HM h0 (m:={ bf 10 with peer:=R.sc.g,seq:=R.st.I.getD src 0 }) ⟨_,_,_,_,_,?_,aP.zero _,bY.zero _,aP.zero _⟩ ht hb,by rintro _ w' ⟨rfl,h,k⟩;exact ⟨rfl,h,k⟩⟩;rw [List.getD_eq_getElem?_getD,hx];rfl
def PD (enc:MM→ByteArray) (R:MR) (s:Nat) (c:MC):MR:=nN enc R { bf 6 with b:=R.sc.b,s:=s,c:=c } (gI R.sc.g R.sc.i R.sc.g R.sc.sz)
theorem Uv (h:Wk Λ br R w) (hz:R.sc.sz≤5) {s:Nat} {c:MC} {cv:Value} (hc:jE w cv c) (hb:R.out.length≤900000):af Tryz.prog 151 #[.pointer (some ⟨br,0,none⟩),.int .u32 s,cv] w (fun v w'=>v=.tuple #[]∧Wk Λ br (PD enc R s c) w'∧Kz w w'):=by
 obtain ⟨rv,dv,rfl,hr⟩:=hc;refine ah au mixed Tryz.func151 rfl rfl ?_;intro w1 b1 m1 g1 l1;have h1:=h.ax g1;have h10:=h1;obtain ⟨a,h1⟩:=h1;refine ⟨by kernel_rfl,_,_,h1.ri.mem,_,rfl,rfl,_,_,m1,_,rfl,rfl,_,yf h10 hz,?_⟩;rintro v w2 ⟨hv,g2⟩;have hol:=iM R.sc.g R.sc.i R.sc.g R.sc.sz;refine ⟨⟨g2.get m1 nofun,(h1.ax g2).ri.mem,trivial⟩,_,mR HM (h10.ax g2) (m:={ bf 6 with b:=R.sc.b,s:=s,c:=c }) ⟨_,_,_,_,_,rfl,(hr.kz g1.kz).kz g2.kz,bY.zero _,aP.zero _⟩ hv (by omega),?_⟩;rintro v w3 ⟨rfl,h3,k3⟩;exact ⟨rfl,h3,(g1.trans g2).kz.trans k3⟩
end
def dh.lt (a b:dh):Bool:=decide (a.n<b.n) || (a.n == b.n && decide (a.id<b.id))
def bC (b:dh):List Value:=[.int .u32 b.n,.int .u8 b.id]
theorem CB (w:World) (a b:dh):af Tryz.prog 140 #[.agg (bC a).toArray,.agg (bC b).toArray] w (fun v w'=>v=.bool (a.lt b)∧GB none w w'):=by
 refine ah au mixed Tryz.func140 rfl rfl ?_;intro w1 b1 h1 g1 l1 w2 b2 h2 g2 l2;have h1:=g2.get h1 nofun;refine ⟨_,_,h1,_,rfl,_,_,h2,_,rfl,?_⟩;have gg:GB none w w2:=g1.trans g2;unfold dh.lt;refine aj (fun c=>?_) (fun c=>?_)
 ·have c1:¬ a.n<b.n:=by simp at c;omega
  refine ⟨_,_,h1,_,rfl,_,_,h2,_,rfl,?_⟩;refine aj (fun d=>?_) (fun d=>?_)
  ·have d1:a.n=b.n:=by simp at d;omega
   refine ⟨_,_,h1,_,rfl,_,_,h2,_,rfl,?_,gg⟩;simp [d1]
  ·have d1:¬ a.n=b.n:=by simp at d;omega
   exact ⟨by simp [c1,d1],gg⟩
 ·have c1:a.n<b.n:=by simp at c;omega
  exact ⟨by simp [c1],gg⟩
theorem dh.eq {a b:dh} (h1:a.n=b.n) (h2:a.id=b.id):a=b:=by
 cases a
 cases b
 simp_all
instance:DecidableEq dh:=fun a b=>by
 obtain ⟨n,i⟩:=a;obtain ⟨m,j⟩:=b;exact decidable_of_iff (n=m∧i=j) (by simp)
def dW (enc:MM→ByteArray) (R:MR) (f:Nat×Nat) (b:dh):MR :=
 if b.lt R.sc.b=true then nN enc R { bf 5 with b:=R.sc.b } [f] else if b=R.sc.b then R else fH { R with sc:={ R.sc with b:=b } }
theorem bY.sl {w:World} {v:Value} {l:List MV} (h:bY w v l):∃ a c,v=.slice a l.length c:=by
 obtain ⟨_,_,⟨a,c,h1,_⟩,_⟩:=h;exact ⟨a,c,h1⟩
theorem aP.sl {w:World} {r:Rg} {rv dv:Value} (h:aP w r rv dv):∃ ra rn rc da dn dc,rv=.slice ra rn rc∧dv=.slice da dn dc:=by
 obtain ⟨⟨ra,rc,h1,_⟩,⟨da,dc,h2,_⟩⟩:=h;exact ⟨ra,_,rc,da,_,dc,h1,h2⟩
def qf (f:Nat→Option MV) (k:Nat):List MV:=(List.range k).filterMap f
theorem Ee (f:Nat→Option MV) (k:Nat):qf f (k+1)=qf f k++(f k).toList:=by
 unfold qf;rw [List.range_succ,List.filterMap_append];cases h:f k <;> simp [h]
theorem F3 (f:Nat→Option MV) (k:Nat):(qf f k).length≤k:=by
 unfold qf;exact Nat.le_trans (List.length_filterMap_le _ _) (by simp)
theorem Ll {α β:Type} {Rel:α→β→Prop} {l:List α} {ps:List β} (hl:ps.length=l.length) {x:α} {y:β} (h:∀ (i:Nat) (a:α) (b:β),l[i]? = some a→ps[i]? = some b→Rel a b) (hx:Rel x y):∀ (i:Nat) (a:α) (b:β),(l++[x])[i]? = some a→(ps++[y])[i]? = some b→Rel a b:=by
 intro i a b ha hb;rcases Nat.lt_or_ge i l.length with hi | hi
 ·rw [List.getElem?_append_left hi] at ha
  rw [List.getElem?_append_left (by omega)] at hb;exact h i a b ha hb
 ·rw [List.getElem?_append_right hi] at ha
  rw [List.getElem?_append_right (by omega)] at hb;have h1:i - l.length=0:=by
   have:=(List.getElem?_eq_some_iff.1 ha).1;simp at this;omega
  rw [h1] at ha;rw [hl,h1] at hb;simp only [List.getElem?_cons_zero,Option.some.injEq] at ha hb;subst ha hb;exact hx
section
variable {enc:MM→ByteArray} (HM:Fa enc) {Λ:bN} {w:World} {br:Nat} {R:MR}
include HM
theorem F4 (h:Wk Λ br R w) (f:Nat×Nat) (b:dh) (hb:R.out.length≤900000):af Tryz.prog 138 #[.pointer (some ⟨br,0,none⟩),.agg #[.int .u8 f.1,.int .u8 f.2],.agg (bC b).toArray] w (fun v w'=>v=.bool (b.lt R.sc.b)∧Wk Λ br (dW enc R f b) w'∧Kz w w'):=by
 refine ah au mixed Tryz.func138 rfl rfl ?_;intro w1 b1 m1 g1 l1 w2 b2 m2 g2 l2;have m1:=g2.get m1 nofun;have g:=g1.trans g2;have h2:=h.ax g;have h20:=h2;obtain ⟨a,h2⟩:=h2;refine ⟨by kernel_rfl,_,_,m2,_,rfl,rfl,_,_,h2.ri.mem,_,rfl,rfl,_,CB w2 b R.sc.b,?_⟩;rintro _ w3 ⟨rfl,g3⟩;have h3:=h2.ax g3;have m2:=g3.get m2 nofun;have m1:=g3.get m1 nofun;unfold dW;refine aj (fun c=>?_) (fun c=>?_)
 ·rw [if_pos c]
  refine ⟨by kernel_rfl,_,_,h3.ri.mem,_,rfl,rfl,_,_,m1,_,rfl,rfl,fun w4 b4 m4 g4 l4=>?_⟩;refine ⟨⟨g4.get m1 nofun,(h3.ax g4).ri.mem,trivial⟩,_,mR HM ((h20.ax g3).ax g4) (m:={ bf 5 with b:=R.sc.b }) ⟨_,_,_,_,_,rfl,aP.zero _,bY.zero _,aP.zero _⟩ (tl:=[f]) ⟨_,_,rfl,Nat.le_refl _,rfl,.inr ⟨_,_,_,rfl,m4,rfl⟩⟩ (by simp;omega),?_⟩;rintro _ w5 ⟨rfl,h5,k5⟩;exact ⟨by rw [c],h5,((g.trans g3).trans g4).kz.trans k5⟩
 ·rw [if_neg (by rw [c];decide)]
  refine ⟨by kernel_rfl,_,_,m2,_,rfl,rfl,_,_,h3.ri.mem,_,rfl,rfl,aj (fun d=>?_) (fun d=>?_)⟩
  ·have d1:¬ b=R.sc.b:=by rintro rfl;simp at d
   rw [if_neg d1];refine ⟨_,_,m2,_,rfl,rfl,_,_,_,h3.ri.mem,rfl,rfl,fun w4 m4 g4=>?_⟩;have h4:=h3.cell (s':={ R.sc with b:=b }) m4 g4;refine ⟨_,Cz br _ Λ w4 ⟨_,h4⟩,?_⟩;rintro _ w5 ⟨rfl,h5,k5⟩;exact ⟨by rw [c],h5,((g.trans g3).kz.trans (h3.ri.kz h3.ri.eQ g4)).trans k5⟩
  ·have d1:b=R.sc.b:=by
    have e:b.n=R.sc.b.n∧b.id=R.sc.b.id:=by simp at d;omega
    exact dh.eq e.1 e.2
   rw [if_pos d1];exact ⟨by rw [c],⟨_,h3⟩,(g.trans g3).kz⟩
omit HM in
theorem PE (h:Wk Λ br R w) (b:dh):af Tryz.prog 81 #[.pointer (some ⟨br,0,none⟩),.agg (bC b).toArray] w (fun v w'=>v=.tuple #[]∧Wk Λ br (if R.sc.b.lt b=true then fH R else R) w'∧Kz w w'):=by
 refine ah au mixed Tryz.func81 rfl rfl ?_;intro w1 b1 m1 g1 l1;have h1:=h.ax g1;have h10:=h1;obtain ⟨a,h1⟩:=h1;refine ⟨by kernel_rfl,_,_,h1.ri.mem,_,rfl,rfl,_,_,m1,_,rfl,rfl,_,CB w1 R.sc.b b,?_⟩;rintro _ w3 ⟨rfl,g3⟩;refine aj (fun c=>?_) (fun c=>?_)
 ·rw [if_pos c]
  refine ⟨_,Cz br _ Λ w3 (h10.ax g3),?_⟩;rintro _ w5 ⟨rfl,h5,k5⟩;exact ⟨rfl,h5,(g1.trans g3).kz.trans k5⟩
 ·rw [if_neg (by rw [c];decide)]
  exact ⟨rfl,h10.ax g3,(g1.trans g3).kz⟩
def Uw (w0 w:World) (v:Value) (l:List MV):Prop:=∃ ps:List (Value×Value),ps.length=l.length∧w.ownsRow 0 178 20 v l.length (List.zipWith (fun x p=>jm x p.1 p.2) l ps).flatten∧∀ (i:Nat) (x:MV) (p:Value×Value),l[i]? = some x→ps[i]? = some p→aP w0 x.c.r p.1 p.2
omit HM in
theorem Uw.vs {w':World} {v:Value} {l:List MV} (h:Uw w w' v l) (g:GB none w w'):bY w' v l:=by
 obtain ⟨ps,h1,h2,h3⟩:=h;exact ⟨ps,h1,lK h2,fun i x p hx hp=>(h3 i x p hx hp).kz g.kz⟩
omit HM in
theorem jL {α:Type} {rel:World→Value→α→Prop} {g:Nat→Option α} {f:Int→Option Value} (h3:∀ k:Nat,match g k with | none=>f k=none | some x=>∃ v,f k=some v∧rel w v x) (k:Nat):(g k=none∧f k=none)∨∃ x v,g k=some x∧f k=some v∧rel w v x:=by
 have:=h3 k;cases hg:g k with
 | none=>rw [hg] at this;exact .inl ⟨rfl,this⟩
 | some x=>rw [hg] at this;obtain ⟨v,h1,h2⟩:=this;exact .inr ⟨x,v,rfl,h1,h2⟩
omit HM in
theorem BM (h:Wk Λ br R w):af Tryz.prog 139 #[.pointer (some ⟨br,0,none⟩)] w (fun v w'=>bY w' v (qf R.eU 60)∧GB none w w'):=by
 obtain ⟨a,h⟩:=h;refine ah au mixed Tryz.func139 rfl rfl ?_;refine ⟨fun m s w1=>∃ (k:Nat) (lv:Value),m=60 - k∧k≤60∧s=[(0,.pointer (some ⟨br,0,none⟩)),(3,lv),(7,.int .u32 k)]∧Uw w w1 lv (qf R.eU k)∧GB none w w1∧∀ g,lv.ownBlock=some g→w.heap.size≤g,⟨_,_,⟨0,.slice none 0 0,rfl,by omega,rfl,⟨[],rfl,eG _ _ _,fun i x p h=>by simp [qf] at h⟩,GB.refl _ _,nofun⟩,rfl,rfl,rfl,trivial⟩,?_⟩;rintro m s w1 ⟨k,lv,rfl,hk,rfl,⟨ps,hpl,ho,hps⟩,g1,hn⟩;refine aj (fun c=>?_) (fun c=>?_)
 ·have c1:k<60:=by simp at c;omega
  have h1:=h.ax g1;obtain ⟨f,e1,e2,e3⟩:=h.ri.vm;refine ⟨_,_,h1.ri.mem,_,rfl,f,e1.keep (g1.block _ h.ri.vm.lt nofun),fun w2 b2 m2 g2 l2=>?_⟩;rcases jL e3 k with ⟨n1,n2⟩ | ⟨x,v,n1,n2,rv,dv,rfl,hr⟩
  ·rw [n2]
   refine ⟨_,_,_,m2,rfl,rfl,fun w3 m3 g3=>?_⟩;have g13:GB none w1 w3:=⟨g3.os.trans g2.os,g3.out.trans g2.out,Nat.le_trans g2.size g3.size,fun x hx _=>(g3.block x (Nat.lt_of_lt_of_le hx g2.size) (fun e=>by cases e;omega)).trans (g2.block x hx nofun)⟩;refine ⟨by omega,_,_,⟨k+1,lv,rfl,by omega,rfl,?_,g1.trans g13,hn⟩,⟨rfl,rfl,rfl,trivial⟩,by omega⟩;rw [Ee,n1,Option.toList_none,List.append_nil];exact ⟨ps,hpl,aF ho fun g hg=>by obtain ⟨cur,hc⟩:=aG ho hg;exact g13.block g (ae hc) nofun,hps⟩
  ·rw [n2]
   obtain ⟨ra,rn,rc,da,dn,dc,rfl,rfl⟩:=hr.sl;refine ⟨_,_,_,m2,rfl,rfl,fun w3 m3 g3=>?_⟩;have g13:GB none w1 w3:=⟨g3.os.trans g2.os,g3.out.trans g2.out,Nat.le_trans g2.size g3.size,fun x hx _=>(g3.block x (Nat.lt_of_lt_of_le hx g2.size) (fun e=>by cases e;omega)).trans (g2.block x hx nofun)⟩;obtain ⟨oa,oc,rfl⟩:=ag ho;refine ⟨_,_,m3,_,rfl,rfl,fun w4 b4 m4 g4 l4=>?_⟩;have yV:=aF ho (w1:=w4) fun g hg=>by obtain ⟨cur,hc⟩:=aG ho hg;exact (g13.trans g4).block g (ae hc) nofun
   have hol:=F3 R.eU k;refine ⟨_,jm x (.slice ra rn rc) (.slice da dn dc),yV,⟨_,_,m4,rfl,rfl,rfl⟩,by omega,fun v' w5 Ed g5 n5=>?_⟩;have g15:GB none w w5:=GB.ownB ((g1.trans g13).trans g4) g5 hn;refine ⟨by omega,_,_,⟨k+1,v',rfl,by omega,rfl,?_,g15,fun g hg=>(n5 g hg).elim (hn g) (fun hl=>by have:=((g1.trans g13).trans g4).size;omega)⟩,⟨rfl,rfl,rfl,trivial⟩,by omega⟩;rw [Ee,n1];refine ⟨ps++[(.slice ra rn rc,.slice da dn dc)],by simp [hpl],?_,Ll hpl hps hr⟩
   ·rw [Option.toList_some,List.length_append,List.zipWith_append (by rw [hpl]),List.flatten_append]
    exact Ed
 ·have c1:k=60:=by simp at c;omega
  subst c1;exact ⟨Uw.vs ⟨ps,hpl,ho,hps⟩ g1,g1⟩
def tV (enc:MM→ByteArray) (R:MR) (f:Nat×Nat) (b:dh):MR:=if b.lt R.sc.b=true then dW enc R f b else nN enc (dW enc R f b) { bf 4 with b:=b,vs:=qf (dW enc R f b).eU 60 } [f]
theorem VX (h:Wk Λ br R w) (f:Nat×Nat) (b:dh) (hb:R.out.length≤900000):af Tryz.prog 79 #[.pointer (some ⟨br,0,none⟩),.agg #[.int .u8 f.1,.int .u8 f.2],.agg (bC b).toArray] w (fun v w'=>v=.tuple #[]∧Wk Λ br (tV enc R f b) w'∧Kz w w'):=by
 refine ah au mixed Tryz.func79 rfl rfl ?_;intro w1 b1 m1 g1 l1 w2 b2 m2 g2 l2;have m1:=g2.get m1 nofun;have g:=g1.trans g2;refine ⟨_,_,m1,_,rfl,rfl,_,_,m2,_,rfl,rfl,_,F4 HM (h.ax g) f b hb,?_⟩;rintro _ w3 ⟨rfl,h3,k3⟩;have m2:=k3 _ (by decide) _ _ m2;have m1:=k3 _ (by decide) _ _ m1;unfold tV;refine aj (fun c=>?_) (fun c=>?_)
 ·rw [if_pos c]
  exact ⟨rfl,h3,g.kz.trans k3⟩
 rw [if_neg (by rw [c];decide)];have hl:(dW enc R f b).out.length≤900000:=by
  unfold dW;rw [if_neg (by rw [c];decide)];split <;> exact hb
 refine ⟨by kernel_rfl,_,_,m2,_,rfl,rfl,_,_,m1,_,rfl,rfl,⟨_,BM h3,?_⟩,?_⟩
 ·rintro v w4 ⟨hv,g4⟩
  obtain ⟨va,vc,rfl⟩:=hv.sl;refine ⟨⟨g4.get m1 nofun,g4.get m2 nofun,trivial⟩,?_⟩;intro w5 b5 m5 g5 l5;refine ⟨⟨(g4.trans g5).get m1 nofun,(g4.trans g5).get m2 nofun,trivial⟩,_,mR HM ((h3.ax g4).ax g5) (m:={ bf 4 with b:=b,vs:=qf (dW enc R f b).eU 60 }) ⟨_,_,_,_,_,rfl,aP.zero _,hv.kz g5.kz,aP.zero _⟩ (tl:=[f]) ⟨_,_,rfl,Nat.le_refl _,rfl,.inr ⟨_,_,_,rfl,m5,rfl⟩⟩ (by simp;omega),?_⟩;rintro _ w6 ⟨rfl,h6,k6⟩;exact ⟨rfl,h6,(g.kz.trans k3).trans ((g4.trans g5).kz.trans k6)⟩
 ·intro w4 b4 m4 g4 l4
  refine ⟨⟨g4.get m1 nofun,g4.get m2 nofun,trivial⟩,_,BM (h3.ax g4),?_⟩;rintro v w5 ⟨hv,g5⟩;obtain ⟨va,vc,rfl⟩:=hv.sl;refine ⟨⟨(g4.trans g5).get m1 nofun,(g4.trans g5).get m2 nofun,trivial⟩,_,mR HM ((h3.ax g4).ax g5) (m:={ bf 4 with b:=b,vs:=qf (dW enc R f b).eU 60 }) ⟨_,_,_,_,_,rfl,aP.zero _,hv,aP.zero _⟩ (tl:=[f]) ⟨_,_,rfl,Nat.le_refl _,rfl,.inr ⟨_,_,_,rfl,g5.get m4 nofun,rfl⟩⟩ (by simp;omega),?_⟩;rintro _ w6 ⟨rfl,h6,k6⟩;exact ⟨rfl,h6,(g.kz.trans k3).trans ((g4.trans g5).kz.trans k6)⟩
end
section
variable {Λ:bN} {w w1 w2:World} {br:Nat} {R:MR} {a:fu}
theorem Wa.lg' (h:Wa Λ br R a w) {lv:Value} {ls:List MC} (g1:GB a.lg.ownBlock w w1) (ho:mQ w1 lv ls) (hn:∀ g,lv.ownBlock=some g→a.lg.ownBlock=some g∨w.heap.size≤g) (m2:w2.heap[br]? = some (.cells (fG { R with log:=ls } { a with lg:=lv }).toArray 135)) (g2:GB (some br) w1 w2):Wa Λ br { R with log:=ls } { a with lg:=lv } w2∧Kz w w2:=by
 have Sm:∀ g,lv.ownBlock=some g→g≠br:=fun g hg e=>by
  subst e;rcases hn g hg with h1 | h1
  ·exact h.ri.x9 h1 rfl
  ·have:=ae h.ri.mem;omega
 have mbr:w1.heap[br]? = w.heap[br]?:=g1.block br (ae h.ri.mem) fun e=>h.ri.x9 e.symm rfl
 have kp:∀ x,x<w.heap.size→some x≠a.lg.ownBlock→x≠br→w2.heap[x]? = w.heap[x]?:=fun x hx h1 h2=>(g2.block x (Nat.lt_of_lt_of_le hx g1.size) fun e=>h2 (Option.some.inj e)).trans (g1.block x hx h1)
 have k:Kz w w2:=fun t ht b c hb=>by
  refine (kp b (ae hb) (fun e=>?_) (fun e=>?_)).trans hb
  ·exact h.ri.mut (h.ri.uL e.symm) t ht c hb
  ·subst e;exact h.ri.mut h.ri.eQ t ht c hb
 have k1:Kz w1 w2:=g2.BK fun c t ht hc=>by rw [mbr,h.ri.mem] at hc;injection hc with hc;injection hc with _ hc;subst hc;revert ht;decide
 have mp:∀ m:Nat,(∃ es c,w.heap[m]? = some (Obj.map es c))→w2.heap[m]? = w.heap[m]?:=fun m hm=>kp m (by obtain ⟨_,_,h⟩:=hm;exact ae h) (fun e=>gK hm (h.ri.clg e.symm) rfl) (gK hm h.ri.rX)
 refine ⟨⟨⟨m2,h.ri.vm.keep (fun _ _ h=>h.kz k) (mp _ h.ri.vm.obj),h.ri.wm.keep (fun _ _ h=>h.kz k) (mp _ h.ri.wm.obj),h.ri.kn.keep (fun _ _ h=>h.kz k) (mp _ h.ri.kn.obj),h.ri.mt.keep (fun _ _ h=>h.kz k) (mp _ h.ri.mt.obj),h.ri.pp.keep (fun _ _ h=>h.kz k) (mp _ h.ri.pp.obj),h.ri.ac.keep (w':=w2) (fun v x (h:mi w v x)=>(show mi w2 v x from h)) (mp _ h.ri.ac.obj),ho.kz k1 (fun g hg=>?_),h.ri.st.kz k,aF h.ri.ob (fun g hg=>?_),h.ri.sep⟩,fun b o hb=>?_,g2.os.trans (g1.os.trans h.os),g2.out.trans (g1.out.trans h.out)⟩,k⟩
 ·obtain ⟨cur,hc⟩:=ho.obj hg
  exact g2.block g (ae hc) fun e=>Sm g hg (Option.some.inj e)
 ·exact kp g (h.ri.lt (h.ri.sP hg)) (fun e=>h.ri.NB e.symm hg rfl) (h.ri.A8 hg)
 ·obtain ⟨p1,p2⟩:=h.pr b o hb
  have hl:=ae p1;refine ⟨(kp b hl (fun e=>p2 (h.ri.uL e.symm)) (fun e=>p2 (by rw [e];exact h.ri.eQ))).trans p1,fun ho=>?_⟩;rcases ho with e | e | e | e | e | e | e | e | e
  ·exact p2 (.inl e)
  ·exact p2 (.inr (.inl e))
  ·exact p2 (.inr (.inr (.inl e)))
  ·exact p2 (.inr (.inr (.inr (.inl e))))
  ·exact p2 (.inr (.inr (.inr (.inr (.inl e)))))
  ·exact p2 (.inr (.inr (.inr (.inr (.inr (.inl e))))))
  ·exact p2 (.inr (.inr (.inr (.inr (.inr (.inr (.inl e)))))))
  ·rcases hn b e with h1 | h1
   ·exact p2 (h.ri.uL h1)
   ·omega
  ·exact p2 (h.ri.sP e)
theorem Wa.st' (h:Wa Λ br R a w) {s:St} {T M D O I:Value} (hs:jG w1 T M D O I s) (m1:w1.heap[br]? = some (.cells (fG { R with st:=s } { a with sT:=T,sM:=M,sD:=D,sO:=O,sI:=I }).toArray 135)) (g:GB (some br) w w1):Wa Λ br { R with st:=s } { a with sT:=T,sM:=M,sD:=D,sO:=O,sI:=I } w1∧Kz w w1:=by
 have k:=h.ri.kz h.ri.eQ g;have r:=h.ri;refine ⟨⟨⟨m1,r.vm.keep (fun _ _ h=>h.kz k) (r.far r.uH g (gK r.vm.obj r.rX)),r.wm.keep (fun _ _ h=>h.kz k) (r.far r.Cy g (gK r.wm.obj r.rX)),r.kn.keep (fun _ _ h=>h.kz k) (r.far r.uI g (gK r.kn.obj r.rX)),r.mt.keep (fun _ _ h=>h.kz k) (r.far r.lZ g (gK r.mt.obj r.rX)),r.pp.keep (fun _ _ h=>h.kz k) (r.far r.uJ g (gK r.pp.obj r.rX)),r.ac.keep (w':=w1) (fun v x (h:mi w v x)=>(show mi w1 v x from h)) (r.far r.uK g (gK r.ac.obj r.rX)),r.lg.kz k (fun x hx=>r.far (r.uL hx) g (r.x9 hx)),hs,aF r.ob (fun x hx=>r.far (r.sP hx) g (r.A8 hx)),r.sep⟩,fun b o hb=>?_,g.os.trans h.os,g.out.trans h.out⟩,k⟩;exact ⟨g.get (h.pr b o hb).1 fun e=>(h.pr b o hb).2 (by cases e;exact r.eQ),(h.pr b o hb).2⟩
end
structure bE where
 N:Nat
 enc:MM→ByteArray
 ap:St→MC→St×aD
 bg:Nat→Nat→St
 dec:ByteArray→Option MM
 good:Nat→St→Prop
 gc:MC→Prop
structure bW (A:bE):Prop where
 jd:Fa A.enc
 call:∀ {k:Nat} (w:World) (s:St) (c:MC) (vT vM vD vO vI cv:Value),jG w vT vM vD vO vI s→A.good k s→jE w cv c→A.gc c→af Tryz.prog 38 #[.agg #[.int .u8 s.g,.int .u8 s.n,vT,vM,vD,vO,vI],cv] w (fun v w'=>∃ T M D O I,v=.tuple #[.agg #[.int .u8 (A.ap s c).1.g,.int .u8 (A.ap s c).1.n,T,M,D,O,I],.agg (A.ap s c).2.cells.toArray]∧(∀ w'':World,(∀ x,w.heap.size≤x→x<w'.heap.size→w''.heap[x]? = w'.heap[x]?)→jG w'' T M D O I (A.ap s c).1)∧GB none w w')
 GZ:∀ {k} s c,k≤60→A.good k s→A.gc c→A.good (k+1) (A.ap s c).1
 rep:∀ {k} s c,A.good k s→A.gc c→0≤(A.ap s c).2.c
 src:∀ {k} s c,A.good k s→A.gc c→c.kind=2→0≤c.r.src∧c.r.src.toNat<s.I.length
 IY:A.gc kQ
 parse:∀ (w:World) (d:ByteArray),af Tryz.prog 21 #[.string d] w (fun v w'=>(∃ mv e m,v=.tuple #[mv,.int .i64 e]∧zW w' mv m∧((e=0∧A.dec d=some m∧1≤m.kind∧m.kind≤10)∨(e≠0∧A.dec d=none)))∧GB none w w')
 beg:∀ (w:World) (g n:Nat),g<n→n≤4→af Tryz.prog 55 #[.int .i64 g,.int .i64 n] w (fun v w'=>∃ T M D O I e,v=.tuple #[.agg #[.int .u8 (A.bg g n).g,.int .u8 (A.bg g n).n,T,M,D,O,I],.int .i64 e]∧(∀ w'':World,(∀ x,w.heap.size≤x→x<w'.heap.size→w''.heap[x]? = w'.heap[x]?)→jG w'' T M D O I (A.bg g n))∧GB none w w')
 NC:∀ g n,n=A.N→g<n→n≤4→A.good 0 (A.bg g n)
 dl:∀ {k} s,A.good k s→s.D.length≤1000000
 ol:∀ {k} s,A.good k s→s.O.length≤200
 Lm:∀ {k} s,A.good k s→∀ (i:Nat) (x:Int),s.I[i]? = some x→0≤x
theorem bW.next {A:bE} (HA:bW A) {l:List MC} {s:St} {c:MC} (h:A.good l.length s) (hl:l.length≤60) (hc:A.gc c):A.good (l++[c]).length (A.ap s c).1:=by rw [List.length_append];exact HA.GZ _ _ hl h hc
section
variable (A:bE)
def qX (R:MR) (c:MC) (p:aD):MR:=if c.kind=1 then qd A.enc R p else if c.kind=2 then zX A.enc R c.r.src.toNat (gI R.sc.g R.sc.i c.r.src.toNat R.sc.sz) else R
def xn (R:MR) (c:MC):MR:=if R.sc.role=2 then qX A { R with st:=(A.ap R.st c).1,log:=R.log++[c] } c (A.ap R.st c).2 else { R with st:=(A.ap R.st c).1,log:=R.log++[c] }
def jo:Nat→MR→MR
 | 0,R=>R
 | n+1,R=>match R.known R.log.length with
  | none=>R
  | some c=>jo n (xn A { R with known:=upd R.known R.log.length none } c)
def kG (R:MR) (s:Nat) (c:MC):MR:=if s<R.log.length then R else jo A 61 { R with props:=upd R.props s none,acc:=upd R.acc s none,sc:={ R.sc with next:=max R.sc.next (s+1) },known:=upd R.known s (some c) }
end
theorem jM (enc:MM→ByteArray) (R:MR) (m:MM) (tl:List (Nat×Nat)):(nN enc R m tl).out.length=R.out.length+tl.length:=by simp [nN,jA]
section
variable {A:bE} (HA:bW A) {Λ:bN} {w:World} {br:Nat} {R:MR}
include HA
theorem Yv (h:Wk Λ br R w) {c:MC} {cv:Value} (hc:jE w cv c) {p:aD} (hp:0≤p.c) (hs:c.kind=2→0≤c.r.src∧c.r.src.toNat<R.st.I.length) (hz:R.sc.sz≤5) (hb:R.out.length≤900000):af Tryz.prog 199 #[.pointer (some ⟨br,0,none⟩),cv,.agg p.cells.toArray] w (fun v w'=>v=.tuple #[]∧Wk Λ br (qX A R c p) w'∧Kz w w'):=by
 obtain ⟨rv,dv,rfl,hr⟩:=hc;refine ah au mixed Tryz.func199 rfl rfl ?_;intro w1 b1 m1 g1 l1 w2 b2 m2 g2 l2;have m1:=g2.get m1 nofun;have g:=g1.trans g2;refine ⟨_,_,m1,_,rfl,?_⟩;unfold qX;refine aj (fun d=>?_) (fun d=>?_)
 ·have d1:c.kind=1:=by simpa using d
  rw [if_pos d1];refine ⟨_,_,m2,_,rfl,rfl,_,qW HA.jd (h.ax g) hp hb,?_⟩;rintro _ w3 ⟨rfl,h3,k3⟩;exact ⟨rfl,h3,g.kz.trans k3⟩
 ·have d1:¬ c.kind=1:=by simpa using d
  rw [if_neg d1];refine aj (fun e=>?_) (fun e=>?_)
  ·have e1:c.kind=2:=by simpa using e
   rw [if_pos e1];obtain ⟨s0,s1⟩:=hs e1;have es:(c.r.src.toNat:Int)=c.r.src:=Int.toNat_of_nonneg s0;refine ⟨by kernel_rfl,_,_,m1,_,rfl,_,_,m1,_,rfl,?_⟩;have ho:=zV (h.ax g) c.r.src.toNat hz;rw [es] at ho;refine ⟨_,ho,?_⟩;rintro v w3 ⟨hv,g3⟩;have hol:=iM R.sc.g R.sc.i c.r.src.toNat R.sc.sz;have ha:=Pz HA.jd ((h.ax g).ax g3) s1 hv (by omega);rw [es] at ha;refine ⟨⟨g3.get m1 nofun,g3.get m1 nofun,trivial⟩,_,ha,?_⟩;rintro _ w4 ⟨rfl,h4,k4⟩;exact ⟨rfl,h4,(g.trans g3).kz.trans k4⟩
  ·have e1:¬ c.kind=2:=by simpa using e
   rw [if_neg e1];exact ⟨rfl,h.ax g,g.kz⟩
theorem aax (h:Wk Λ br R w) {c:MC} {cv:Value} (hc:jE w cv c) {k:Nat} (ac6:k≤60) (hg:A.good k R.st) (hgc:A.gc c) (hz:R.sc.sz≤5) (hl:R.log.length≤1000) (hb:R.out.length≤900000):af Tryz.prog 185 #[.pointer (some ⟨br,0,none⟩),cv] w (fun v w'=>v=.tuple #[]∧Wk Λ br (xn A R c) w'∧Kz w w'):=by
 have hc0:=hc;obtain ⟨rv,dv,rfl,hr⟩:=hc;refine ah au mixed Tryz.func185 rfl rfl ?_;intro w1 b1 m1 g1 l1 w2 b2 m2 g2 l2;obtain ⟨h1,u1⟩:=h.box g1 m1 l1;have g:=g1.trans g2;obtain ⟨a,h1⟩:=h1;obtain ⟨vm,wm,kn,mt,pp,ac,lg,ob,sT,sM,sD,sO,sI⟩:=a;have h2:=h1.ax g2;have hbr:br<w1.heap.size:=ae h1.ri.mem;refine ⟨by kernel_rfl,_,_,h2.ri.mem,_,rfl,rfl,_,_,g2.get m1 nofun,_,rfl,rfl,_,HA.call w2 R.st c _ _ _ _ _ _ h2.ri.st hg (hc0.kz g.kz) hgc,?_⟩;rintro _ w3 ⟨T,M,D,O,I,rfl,hs3,g3⟩;have h3:=h2.ax g3;obtain ⟨ta,tn,tc,ma,mn,mc,da,dn,dc,oa,on,oc,ia,il,ic,rfl,rfl,rfl,rfl,rfl⟩:=(hs3 w3 fun _ _ _=>rfl).sl;refine ⟨_,_,_,h3.ri.mem,rfl,rfl,fun w4 m4 g4=>?_⟩;have m2':w4.heap[b2]? = some (.cells (zc au.T 70).toArray 70):=g4.get (g3.get m2 nofun) fun e=>by cases e;omega
 refine ⟨_,_,_,m2',rfl,rfl,fun w5 m5 g5=>?_⟩;have g15:GB (some br) w1 w5:=⟨g5.os.trans (g4.os.trans (g3.os.trans g2.os)),g5.out.trans (g4.out.trans (g3.out.trans g2.out)),Nat.le_trans g2.size (Nat.le_trans g3.size (Nat.le_trans g4.size g5.size)),fun x hx hne=>(g5.block x (Nat.lt_of_lt_of_le hx (Nat.le_trans g2.size (Nat.le_trans g3.size g4.size))) (fun e=>by cases e;omega)).trans ((g4.block x (Nat.lt_of_lt_of_le hx (Nat.le_trans g2.size g3.size)) hne).trans ((g3.block x (Nat.lt_of_lt_of_le hx g2.size) nofun).trans (g2.block x hx nofun)))⟩;have afU:b2<w2.heap.size:=ae m2;obtain ⟨h5,k5⟩:=h1.st' (hs3 w5 fun x hx hx3=>(g5.block x (Nat.lt_of_lt_of_le hx3 g4.size) (fun e=>by cases e;omega)).trans (g4.block x hx3 fun e=>by cases e;have:=g2.size;omega)) (g5.get m4 fun e=>by cases e;omega) g15;have yX:w5.heap[b1]? = _:=(h5.pr b1 _ (by unfold bN.add;simp;rfl)).1;obtain ⟨la,lc,rfl⟩:∃ la lc,lg=.slice la R.log.length lc:=by obtain ⟨_,_,h,_⟩:=h5.ri.lg;exact ag h
 obtain ⟨ra,rn,rc,ig,jU,ik,rfl,rfl⟩:=hr.sl;refine ⟨by kernel_rfl,_,_,h5.ri.mem,_,rfl,_,_,yX,_,rfl,rfl,fun w6 b6 m6 g6 l6=>?_⟩;have h6:=h5.ax g6;obtain ⟨ps,hpl,hlo,hlr⟩:=h6.ri.lg;refine ⟨⟨g6.get yX nofun,h6.ri.mem,trivial⟩,_,cK c (.slice ra rn rc) (.slice ig jU ik),hlo,⟨_,_,m6,rfl,rfl,rfl⟩,by omega,fun lv w7 FZ g7 n7=>?_⟩;obtain ⟨la',F5,rfl⟩:=ag FZ;have m7:w7.heap[br]? = _:=(g7.block br (ae h6.ri.mem) fun e=>h6.ri.x9 e.symm rfl).trans h6.ri.mem;refine ⟨_,_,_,m7,rfl,rfl,fun w8 m8 g8=>?_⟩;have PH:Kz w6 w7:=fun t ht b cc hb=>g7.get hb fun e=>h6.ri.mut (h6.ri.uL e.symm) t ht cc hb
 have ND:Kz w w6:=(g1.kz.trans k5).trans g6.kz;obtain ⟨h8,k8⟩:=h6.lg' (ls:=R.log++[c]) g7 ⟨ps++[(.slice ra rn rc,.slice ig jU ik)],by simp [hpl],by rw [List.length_append,List.zipWith_append (by rw [hpl]),List.flatten_append];exact FZ,fun i x p hx hp=>(Ll hpl hlr (hr.kz ND) i x p hx hp).kz PH⟩ n7 m8 g8;have Sn:=ND.trans k8;unfold xn;refine ⟨_,_,h8.ri.mem,_,rfl,aj (fun d=>?_) (fun d=>?_)⟩
 ·have d1:R.sc.role=2:=by simp at d;omega
  rw [if_pos d1];have NF:w8.heap[b1]? = _:=(h8.pr b1 _ (by unfold bN.add;simp;rfl)).1;have pF:w8.heap[b2]? = _:=k8 _ (by decide) _ _ (g6.get m5 nofun);refine ⟨_,_,NF,_,rfl,rfl,_,_,pF,_,rfl,rfl,_,Yv HA ⟨_,h8⟩ ⟨_,_,rfl,hr.kz Sn⟩ (HA.rep _ _ hg hgc) (fun hk=>HA.src _ c (HA.GZ _ _ ac6 hg hgc) hgc hk) hz hb,?_⟩;rintro _ w9 ⟨rfl,h9,k9⟩;exact ⟨rfl,h9.drop u1,Sn.trans k9⟩
 ·have d1:¬ R.sc.role=2:=by simp at d;omega
  rw [if_neg d1];exact ⟨rfl,Wk.drop ⟨_,h8⟩ u1,Sn⟩
end
def F6 (l:List Int):List Value:=l.map fun b=>.int .u8 b
theorem VY (a b:List Int):F6 (a++b)=F6 a++F6 b:=List.map_append
structure Put (w:World) (v:Value) (n:Nat) (xs:List Value) (new:List Int) (v':Value) (w':World):Prop where
 row:w'.ownsRow 0 5 1 v' (n+new.length) (xs++F6 new)
 gb:GB v.ownBlock w w'
 own:∀ g,v'.ownBlock=some g→v.ownBlock=some g∨w.heap.size≤g
theorem cO {w:World} {x y:Nat} {c c':Array Value} {t t':TypeId} (h:w.heap[x]? = some (.cells c t)) (h':w.heap[y]? = some (.cells c' t')) (hne:t≠t'):x≠y:=fun e=>by
 subst e;rw [h] at h';injection h' with h';injection h' with _ h';exact hne h'
section
variable {w w0 w1 w2:World} {v v1 v2:Value} {n:Nat} {xs:List Value} {a b:List Int}
theorem Put.trans (h:Put w v n xs a v1 w1) (k:Put w1 v1 (n+a.length) (xs++F6 a) b v2 w2):Put w v n xs (a++b) v2 w2:=by
 refine ⟨?_,⟨k.gb.os.trans h.gb.os,k.gb.out.trans h.gb.out,Nat.le_trans h.gb.size k.gb.size,fun x hx hn=>(k.gb.block x (Nat.lt_of_lt_of_le hx h.gb.size) fun e=>?_).trans (h.gb.block x hx hn)⟩,fun g hg=>?_⟩
 ·have:=k.row
  rw [List.append_assoc,← VY,Nat.add_assoc,← List.length_append] at this;exact this
 ·rcases h.own x e.symm with q | q
  ·exact hn q.symm
  ·omega
 ·rcases k.own g hg with q | q
  ·exact h.own g q
  ·exact .inr (Nat.le_trans h.gb.size q)
theorem Put.pre (g:GB none w0 w) (h:Put w v n xs a v1 w1):Put w0 v n xs a v1 w1:=⟨h.row,⟨h.gb.os.trans g.os,h.gb.out.trans g.out,Nat.le_trans g.size h.gb.size,fun x hx hn=>(h.gb.block x (Nat.lt_of_lt_of_le hx g.size) hn).trans (g.block x hx nofun)⟩,fun x hx=>(h.own x hx).imp id fun e=>Nat.le_trans g.size e⟩
theorem Put.nil (ho:w.ownsRow 0 5 1 v n xs):Put w v n xs [] v w:=⟨by simpa [F6] using ho,GB.refl _ _,fun _ h=>.inl h⟩
theorem Put.get (h:Put w v n xs a v1 w1) (ho:w.ownsRow 0 5 1 v n xs) {x:Nat} {c:Array Value} {t:TypeId} (hx:w.heap[x]? = some (.cells c t)) (ht:t≠5):w1.heap[x]? = some (.cells c t):=h.gb.get hx fun e=>by
 obtain ⟨c',hc⟩:=aG ho e.symm;exact cO hx hc ht rfl
theorem ji (ho:w.ownsRow 0 5 1 v n xs) (g:GB none w w1):w1.ownsRow 0 5 1 v n xs:=aF ho fun x hx=>by obtain ⟨c,hc⟩:=aG ho hx;exact g.block x (ae hc) nofun
theorem dx (ho:w.ownsRow 0 5 1 v n xs) (hn:n≤900000000) (x:Int):af Tryz.prog 119 #[v,.int .u8 x] w (fun v' w'=>Put w v n xs [x] v' w'):=by
 obtain ⟨va,vc,rfl⟩:=ag ho;refine ah au mixed Tryz.func119 rfl rfl ?_;refine fun w1 b1 m1 g1 l1=>?_
 refine ⟨_,[.int .u8 x],ji ho g1,⟨_,_,m1,rfl,rfl,rfl⟩,by omega,fun v' w2 ho2 g2 n2=>?_⟩;exact Put.pre g1 ⟨ho2,g2,n2⟩
def b32 (x:Int):List Int:=[IntKind.u8.wrap (x.fdiv (2 ^ 24)),IntKind.u8.wrap (x.fdiv (2 ^ 16)),IntKind.u8.wrap (x.fdiv (2 ^ 8)),IntKind.u8.wrap x]
theorem iU (ho:w.ownsRow 0 5 1 v n xs) (hn:n≤900000000) (x:Int):af Tryz.prog 125 #[v,.int .u32 x] w (fun v' w'=>Put w v n xs (b32 x) v' w'):=by
 obtain ⟨va,vc,rfl⟩:=ag ho;refine ah au mixed Tryz.func125 rfl rfl ?_;refine ⟨by decide,.inr ⟨by decide,.inr ⟨by decide,.inr (.inr (fun w1 b1 m1 g1 l1=>?_))⟩⟩⟩;refine ⟨_,F6 (b32 x),ji ho g1,⟨_,_,m1,rfl,rfl,rfl⟩,by omega,fun v' w2 ho2 g2 n2=>?_⟩;exact Put.pre g1 ⟨ho2,g2,n2⟩
def b64 (x:Int):List Int:=b32 (IntKind.u32.wrap (x.fdiv (2 ^ 32)))++b32 (IntKind.u32.wrap x)
theorem kY (ho:w.ownsRow 0 5 1 v n xs) (hn:n≤800000000) (x:Int):af Tryz.prog 174 #[v,.int .u64 x] w (fun v' w'=>Put w v n xs (b64 x) v' w'):=by
 refine ah au mixed Tryz.func174 rfl rfl ?_;refine ⟨by decide,.inr ⟨_,iU ho (by omega) _,?_⟩⟩;intro v1 w1 p1;refine .inr ⟨_,iU p1.row (by show n+4≤_;omega) _,?_⟩;intro v2 w2 p2;exact p1.trans p2
end
end
end Go.Proofs.YtignemioillaiabGreat
