/- What is right (4): votes, messages. -/
import Derived.Test.YtignemioillaiabGreatG32
namespace Go.Proofs.YtignemioillaiabGreat
set_option maxHeartbeats 8000000
set_option maxRecDepth 100000
section
open Go Go.Conc
def mY (l:List MV):Bool:=jC (fun v:MV=>kR v.c) (fun y x=>decide (y.slot<x.slot)) l
def Af (p:aD):Bool:=p.c == 0 && (p.s == 0 && (p.key == 0 && (p.k == 0 && (p.found == false && (p.v == 0 && p.g == 0)))))
def Ag (b:dh):Bool:=(b.n:Int) == 0 && (b.id:Int) == 0
def mZ (m:MM):Bool:=oh m.q && (Af m.p && (Ag m.b && ((m.s:Int) == 0 && (m.c.kind == 0 && (xx m.c && ((m.vs.length:Int) == 0 && (sj m.r && (m.peer == 0 && m.seq == 0))))))))
def eF (m:MM):Bool:=if m.kind=1 then kJ m.q && mZ { m with q:=qb } else if m.kind=2 then tJ m.p && mZ { m with p:=rY } else if m.kind=3 then mZ { m with b:=⟨0,0⟩ } else if m.kind=5 then mZ { m with b:=⟨0,0⟩ } else if m.kind=4 then mY m.vs && mZ { m with b:=⟨0,0⟩,vs:=[] } else if m.kind=6 then kR m.c && mZ { m with b:=⟨0,0⟩,s:=0,c:=kQ } else if m.kind=7 then mZ { m with b:=⟨0,0⟩,s:=0 } else if m.kind=8 then kR m.c && mZ { m with s:=0,c:=kQ } else if m.kind=9 then og m.r && mZ { m with r:=pE } else if m.kind=10 then decide (m.peer<4) && mZ { m with peer:=0,seq:=0 } else false
theorem LA {l:List MV} {ps:List (Value×Value)} {k:Nat} {x:MV} {p:Value×Value} (_hl:ps.length=l.length) (hx:l[k]? = some x) (hp:ps[k]? = some p) {cs:List Value} {off:Nat} (hcut:aO cs off (l.length*20)=(List.zipWith (fun x p=>jm x p.1 p.2) l ps).flatten):aO cs (off+k*20) 20=jm x p.1 p.2:=by
 have hk:=(List.getElem?_eq_some_iff.1 hx).1;have h0:(l.zip ps)[k]? = some (x,p):=by rw [List.getElem?_zip_eq_some];exact ⟨hx,hp⟩
 have h1:=jy (f:=fun x:MV×Value×Value=>jm x.1 x.2.1 x.2.2) (size:=20) (fun _=>rfl) (l.zip ps) k (x,p) h0;rw [List.flatMap_def,← I9,← hcut,uh _ _ _ _ _ (by omega)] at h1;exact h1
section
variable {w:World}
theorem SS {l:List MV} {v:Value} (hv:bY w v l):af Tryz.prog 115 #[v] w (fun v w'=>v=.bool (mY l)∧GB none w w'):=by
 obtain ⟨ps,hp,⟨a,c,rfl,hcap,hlen,hv⟩,hr⟩:=hv;refine ah au mixed Tryz.func115 rfl rfl ?_;refine aj (fun d=>?_) (fun d=>?_)
 ·exact ⟨congrArg Value.bool (yo (by simp at d;omega)).symm,GB.refl _ _⟩
 have yg:l.length≤255:=by simp at d;omega
 refine ⟨fun m s wk=>∃ k:Nat,m=l.length - k∧k≤l.length∧s=[(0,.slice a l.length c),(8,.slice a l.length c),(9,.int .i64 l.length),(10,.int .i64 k)]∧GB none w wk∧(List.range k).all (vV (fun v:MV=>kR v.c) (fun y x=>decide (y.slot<x.slot)) l)=true,⟨_,_,⟨0,rfl,Nat.zero_le _,rfl,GB.refl _ _,rfl⟩,rfl,rfl,rfl,rfl,trivial⟩,?_⟩;rintro m s wk ⟨k,rfl,hk,rfl,gk,hall⟩;refine aj (fun d=>?_) (fun d=>?_)
 ·have d1:k<l.length:=by have:=of_decide_eq_true d;omega
  obtain ⟨x,hx⟩:∃ x,l[k]? = some x:=⟨l[k],by simp [d1]⟩;obtain ⟨⟨p1,p2⟩,hpk⟩:∃ p,ps[k]? = some p:=⟨ps[k]'(by omega),by simp [show k<ps.length by omega]⟩;have hrx:=hr k x _ hx hpk;obtain ⟨x1,x2,x3,x4,x5,x6,q1,q2⟩:=hrx.sl;dsimp only at q1 q2 hrx;subst q1 q2;rcases hv with ⟨_,h0⟩ | ⟨b,off,cs,rfl,hb,hcut⟩
  ·omega
  have hb1:=gk.get hb nofun;refine ⟨⟨by omega,by omega⟩,_,_,hb1,jm x (.slice x1 x2 x3) (.slice x4 x5 x6),by show aO cs.toList (off+(k:Int).toNat*20) 20=_;rw [Int.toNat_natCast];exact LA hp hx hpk hcut,rfl,fun w2 b2 m2 g2 l2=>⟨_,_,_,m2,rfl,rfl,fun w3 m3 g3=>?_⟩⟩;have G:=gk.trans (g2.new g3 l2);have hb3:=G.get hb nofun;have last:(∀ j y,k=j+1→l[j]? = some y→decide (y.slot<x.slot)=true)→∃ Post,af Tryz.prog 116 #[.agg (cK x.c (.slice x1 x2 x3) (.slice x4 x5 x6)).toArray] w3 Post∧∀ v w4,Post v w4→∃ z,v=.bool z∧GB none w3 w4∧(z=false→mY l=false)∧(z=true→(List.range (k+1)).all (vV (fun v:MV=>kR v.c) (fun y x=>decide (y.slot<x.slot)) l)=true):=fun hlt=>⟨_,yw (c:=x.c) (hrx.kz G.kz),by
   rintro _ w4 ⟨rfl,g4⟩;exact ⟨_,rfl,g4,fun hz=>xw hx hz,fun hz=>uC hall (uS hx hz hlt)⟩⟩
  refine ⟨by kernel_rfl,aj (fun e=>?_) (fun e=>?_)⟩
  ·have e1:0<k:=by simp at e;omega
   obtain ⟨j,rfl⟩:∃ j,k=j+1:=⟨k - 1,by omega⟩;obtain ⟨y,hy⟩:∃ y,l[j]? = some y:=⟨l[j]'(by omega),by simp [show j<l.length by omega]⟩;obtain ⟨p',hpj⟩:∃ p,ps[j]? = some p:=⟨ps[j]'(by omega),by simp [show j<ps.length by omega]⟩;have ej:(((j+1:Nat):Int) - 1).toNat=j:=by omega
   refine ⟨_,_,m3,_,rfl,⟨by omega,by omega⟩,⟨by omega,by omega⟩,_,_,hb3,.int .u32 y.slot,by show cs.toList[off+(((j+1:Nat):Int) - 1).toNat*20+0]? = _;rw [ej];exact gY (LA hp hy hpj hcut) rfl (by decide),?_⟩;refine aj (fun q=>?_) (fun q=>?_)
   ·exact ⟨congrArg Value.bool (CK hx hy (by simp at q;simp;omega)).symm,G⟩
   ·obtain ⟨Post,h1,h2⟩:=last fun i y' ei hy'=>by cases ei;rw [hy] at hy';cases hy';simp at q;simp;omega
    refine ⟨_,_,m3,cK x.c (.slice x1 x2 x3) (.slice x4 x5 x6),rfl,rfl,_,h1,fun v w4 hv=>?_⟩;obtain ⟨z,rfl,g4,z1,z2⟩:=h2 v w4 hv;cases z
    ·exact ⟨congrArg Value.bool (z1 rfl).symm,G.trans g4⟩
    ·exact ⟨⟨by omega,by omega⟩,_,_,⟨j+2,rfl,by omega,rfl,G.trans g4,z2 rfl⟩,⟨rfl,rfl,rfl,rfl,trivial⟩,by omega⟩
  ·have e1:k=0:=by simp at e;omega
   subst e1;obtain ⟨Post,h1,h2⟩:=last fun j y e _=>absurd e (Nat.succ_ne_zero j).symm
   refine ⟨_,_,m3,cK x.c (.slice x1 x2 x3) (.slice x4 x5 x6),rfl,rfl,_,h1,fun v w4 hv=>?_⟩;obtain ⟨z,rfl,g4,z1,z2⟩:=h2 v w4 hv;cases z
   ·exact ⟨congrArg Value.bool (z1 rfl).symm,G.trans g4⟩
   ·exact ⟨⟨by omega,by omega⟩,_,_,⟨1,rfl,by omega,rfl,G.trans g4,z2 rfl⟩,⟨rfl,rfl,rfl,rfl,trivial⟩,by omega⟩
 ·have d1:k=l.length:=by have:=of_decide_eq_false d;omega
  subst d1;exact ⟨congrArg Value.bool (by unfold mY jC;rw [hall];simp [yg]),gk⟩
variable {m:MM} {rv dv vv rv' cB:Value}
theorem fU (hc:aP w m.c.r rv dv) (hv:bY w vv m.vs) (hr:aP w m.r rv' cB):af Tryz.prog 118 #[.agg (dK m rv dv vv rv' cB).toArray] w (fun v w'=>v=.bool (mZ m)∧GB none w w'):=by
 obtain ⟨_,_,_,_,_,_,rfl,rfl⟩:=hc.sl;obtain ⟨_,_,_,_,_,_,rfl,rfl⟩:=hr.sl;obtain ⟨_,_,rfl⟩:=hv.sl;refine ah au mixed Tryz.func118 rfl rfl ?_;refine fun w1 b1 m1 g1 l1=>?_
 have hc1:=hc.kz g1.kz;have hr1:=hr.kz g1.kz;refine ⟨_,_,m1,m.q.cells,rfl,rfl,?_⟩;refine aj (fun c0=>?_) (fun c0=>?_)
 ·refine ⟨_,_,m1,m.p.cells,rfl,rfl,?_⟩
  refine aj (fun c1=>?_) (fun c1=>?_)
  ·refine ⟨_,_,m1,[.int .u32 m.b.n,.int .u8 m.b.id],rfl,rfl,?_⟩
   refine aj (fun c2=>?_) (fun c2=>?_)
   ·refine ⟨_,_,m1,_,rfl,?_⟩
    refine aj (fun c3=>?_) (fun c3=>?_)
    ·refine ⟨_,_,m1,_,rfl,?_⟩
     refine aj (fun c4=>?_) (fun c4=>?_)
     ·refine ⟨_,_,m1,cK m.c _ _,rfl,rfl,_,xy (c:=m.c) hc1,?_⟩
      rintro _ w2 ⟨rfl,g2⟩;have m2:=g2.get m1 nofun;have g12:=g1.trans g2;refine aj (fun c5=>?_) (fun c5=>?_)
      ·refine ⟨_,_,m2,_,rfl,?_⟩
       refine aj (fun c6=>?_) (fun c6=>?_)
       ·refine ⟨_,_,m2,dN m.r _ _,rfl,rfl,_,El (r:=m.r) (hr1.kz g2.kz),?_⟩
        rintro _ w3 ⟨rfl,g3⟩;have m3:=g3.get m2 nofun;have g13:=g12.trans g3;refine aj (fun c7=>?_) (fun c7=>?_)
        ·refine ⟨_,_,m3,_,rfl,?_⟩
         refine aj (fun c8=>?_) (fun c8=>?_)
         ·refine ⟨_,_,m3,_,rfl,?_⟩
          exact ⟨congrArg Value.bool (by grind [mZ,oh,Af,Ag]),g13⟩
         ·exact ⟨congrArg Value.bool (by grind [mZ,oh,Af,Ag]),g13⟩
        ·exact ⟨congrArg Value.bool (by grind [mZ,oh,Af,Ag]),g13⟩
       ·exact ⟨congrArg Value.bool (by grind [mZ,oh,Af,Ag]),g12⟩
      ·exact ⟨congrArg Value.bool (by grind [mZ,oh,Af,Ag]),g12⟩
     ·exact ⟨congrArg Value.bool (by grind [mZ,oh,Af,Ag]),g1⟩
    ·exact ⟨congrArg Value.bool (by grind [mZ,oh,Af,Ag]),g1⟩
   ·exact ⟨congrArg Value.bool (by grind [mZ,oh,Af,Ag]),g1⟩
  ·exact ⟨congrArg Value.bool (by grind [mZ,oh,Af,Ag]),g1⟩
 ·exact ⟨congrArg Value.bool (by grind [mZ,oh,Af,Ag]),g1⟩
end
def fB (a b:Int):Int:=if a<b then -1 else if b<a then 1 else 0
def LC (a b:Int):Int:=if a=0 then b else a
def iW (a b:aD):Int:=LC (fB a.key b.key) (fB a.c b.c)
def dL {α:Type} (f:α→Int) (l:List α):Nat:=l.countP (fun x=>decide (f x<0))
def ng {α:Type} (f:α→Int) (l:List α):Bool:=match l[dL f l]? with | some x=>f x == 0 | none=>false
theorem uj {a b:Int}:fB a b<0↔a<b:=by
 unfold fB;split
 ·simp;omega
 ·split <;> omega
theorem lV {a b:Int}:fB a b=0↔a=b:=by
 unfold fB;split
 ·simp;omega
 ·split <;> omega
theorem Bc {a b:aD}:iW a b<0↔a.key<b.key∨a.key=b.key∧a.c<b.c:=by
 unfold iW LC;split
 ·rename_i h
  rw [lV] at h;rw [uj];omega
 ·rename_i h
  rw [lV] at h;rw [uj];omega
theorem Wp {a b:aD}:iW a b=0↔a.key=b.key∧a.c=b.c:=by
 unfold iW LC;split
 ·rename_i h
  rw [lV] at h;rw [lV];omega
 ·rename_i h
  rw [lV] at h;rw [lV];omega
def Ah {α:Type} (f:α→Int) (l:List α):Prop:=∀ (i j:Nat) (x y:α),i≤j→l[i]? = some x→l[j]? = some y→f y<0→f x<0
def fK (T:List Row):Prop:=T.Pairwise (fun a b=>a.key<b.key)
def iD (D:List aD):Prop:=D.Pairwise (fun a b=>a.key<b.key∨a.key=b.key∧a.c<b.c)
theorem Be {α:Type} {R:α→α→Prop} {l:List α} (h:l.Pairwise R) {i j:Nat} {x y:α} (hij:i<j) (hx:l[i]? = some x) (hy:l[j]? = some y):R x y:=by
 obtain ⟨hi,rfl⟩:=List.getElem?_eq_some_iff.1 hx;obtain ⟨hj,rfl⟩:=List.getElem?_eq_some_iff.1 hy;exact List.pairwise_iff_getElem.1 h i j hi hj hij
theorem UF {T:List Row} (h:fK T) (key:Int):Ah (fun x:Row=>fB x.key key) T:=by
 intro i j x y hij hx hy hl;rcases Nat.lt_or_eq_of_le hij with h1 | rfl
 ·have:=Be h h1 hx hy
  rw [uj] at hl ⊢;omega
 ·rw [hx] at hy;cases hy;exact hl
theorem UG {D:List aD} (h:iD D) (q:aD):Ah (fun x:aD=>iW x q) D:=by
 intro i j x y hij hx hy hl;rcases Nat.lt_or_eq_of_le hij with h1 | rfl
 ·have:=Be h h1 hx hy
  rw [Bc] at hl ⊢;omega
 ·rw [hx] at hy;cases hy;exact hl
theorem Bf {α:Type} (f:α→Int) (l:List α):dL f l≤l.length:=List.countP_le_length
theorem su {α:Type} (f:α→Int):∀ (l:List α),Ah f l→(∀ (t:Nat) (x:α),t<dL f l→l[t]? = some x→f x<0)∧(∀ (t:Nat) (x:α),dL f l≤t→l[t]? = some x→0≤f x)
 | [],_=>⟨fun t x _ h=>by simp at h,fun t x _ h=>by simp at h⟩
 | a::r,h=>by
  have hr:Ah f r:=fun i j x y hij hx hy=>h (i+1) (j+1) x y (by omega) (by simpa using hx) (by simpa using hy)
  obtain ⟨h1,h2⟩:=su f r hr;by_cases ha:f a<0
  ·have hp:dL f (a::r)=dL f r+1:=by unfold dL;rw [List.countP_cons_of_pos (by simp [ha])]
   rw [hp];refine ⟨fun t x ht hx=>?_,fun t x ht hx=>?_⟩
   ·cases t with
    | zero=>simp at hx;subst hx;exact ha
    | succ t=>exact h1 t x (by omega) (by simpa using hx)
   ·cases t with
    | zero=>omega
    | succ t=>exact h2 t x (by omega) (by simpa using hx)
  ·have hz:dL f r=0:=by
    unfold dL;rw [List.countP_eq_zero];intro x hx;obtain ⟨t,ht,rfl⟩:=List.getElem_of_mem hx;intro hc;exact ha (h 0 (t+1) a r[t] (Nat.zero_le _) rfl (by simp [ht]) (by simpa using hc))
   have hp:dL f (a::r)=0:=by
    unfold dL at hz ⊢;rw [List.countP_cons_of_neg (by simp [ha]),hz]
   rw [hp];refine ⟨fun t x ht _=>by omega,fun t x ht hx=>?_⟩;cases t with
   | zero=>simp at hx;subst hx;exact Int.not_lt.1 ha
   | succ t=>exact h2 t x (by omega) (by simpa using hx)
def jZ {α:Type} (l:List α) (i:Nat) (x:α):List α:=l.take i++(x::l.drop i)
abbrev sF (T:List Row) (key:Int):Nat:=dL (fun x:Row=>fB x.key key) T
abbrev kK (T:List Row) (key:Int):Bool:=ng (fun x:Row=>fB x.key key) T
abbrev yY (D:List aD) (q:aD):Nat:=dL (fun x:aD=>iW x q) D
abbrev Ji (D:List aD) (q:aD):Bool:=ng (fun x:aD=>iW x q) D
def rq (T:List Row) (key:Int):Int:=if kK T key then ((T[sF T key]?).map Row.val).getD 0 else 0
def ru (T:List Row) (key:Int):Int:=if kK T key then 2 else if 8≤T.length then 5 else 2
def nU (T:List Row) (key v:Int):List Row:=if kK T key then T.set (sF T key) ⟨key,v⟩ else if 8≤T.length then T else jZ T (sF T key) ⟨key,v⟩
def wH (T:List Row) (key:Int):List Row:=if kK T key then T.eraseIdx (sF T key) else T
def iX (D:List aD) (q:aD):List aD:=if Ji D q then D.set (yY D q) q else jZ D (yY D q) q
def BS (lo hi:Int) (p:Pc):Bool:=decide (lo<p.f) && decide (p.f≤hi)
def Jj (m:List Pc) (g lo hi:Int):Int:=if own 0 m lo≠g then own 0 m lo else ((m.find? (BS lo hi)).map Pc.g).getD 0
def NR (m:List Pc) (g lo hi:Int):Bool:=if own 0 m lo≠g then true else (m.find? (BS lo hi)).isSome
def sB {α:Type} (f:α→Int) (lo:Int) (l:List α):List α:=l.filter fun x=>decide (f x<lo)
def sA {α:Type} (f:α→Int) (lo hi:Int) (l:List α):List α:=l.filter fun x=>!decide (f x<lo) && decide (hi<f x)
def sW {α:Type} (f:α→Int) (lo hi:Int) (l:List α):List α:=l.filter fun x=>!decide (f x<lo) && !decide (hi<f x)
def yx (T:List Row) (lo hi:Int):List Row:=sB (fun x:Row=>x.key) lo T++sA (fun x:Row=>x.key) lo hi T
def yz (D:List aD) (lo hi:Int):List aD:=sB (fun x:aD=>x.key) lo D++sA (fun x:aD=>x.key) lo hi D
def Ai (g j next lo hi:Int) (T:List Row) (D:List aD):Rg:=⟨g,j,next,lo,hi,sW (fun x:Row=>x.key) lo hi T,sW (fun x:aD=>x.key) lo hi D⟩
def dO (O:List (Int×List Rg)) (k:Int):Int×List Rg:=(O[k.toNat]?).getD (0,[])
def gu (s:St) (q:bH):Bool:=!(q.to == s.g) && decide (q.to<s.n) && decide ((dO s.O q.to).2.length<4) && decide ((iB s.M q.key q.hi q.to).length≤8)
def lD (q:bH):aD:=⟨q.c,q.s,q.key,0,false,0,0⟩
def kL (s:St) (q:bH):aD :=
 if q.k=1 then ⟨q.c,q.s,q.key,1,kK s.T q.key,rq s.T q.key,0⟩
 else if q.k=2 then ⟨q.c,q.s,q.key,ru s.T q.key,false,0,0⟩
 else if q.k=3 then ⟨q.c,q.s,q.key,2,false,0,0⟩
 else if gu s q then ⟨q.c,q.s,q.key,2,false,0,0⟩ else ⟨q.c,q.s,q.key,5,false,0,0⟩
def Y0 (s:St) (q:bH) (D1:List aD):St:={ s with T:=yx s.T q.key q.hi,M:=iB s.M q.key q.hi q.to,D:=yz D1 q.key q.hi,O:=s.O.set q.to.toNat (IntKind.u32.wrap ((dO s.O q.to).1+1),(dO s.O q.to).2++[Ai s.g q.to (dO s.O q.to).1 q.key q.hi s.T D1]) }
def sG (s:St) (q:bH):St :=
 if q.k=2 then { s with T:=nU s.T q.key q.v,D:=iX s.D (kL s q) }
 else if q.k=3 then { s with T:=wH s.T q.key,D:=iX s.D (kL s q) }
 else if q.k=4∧gu s q=true then Y0 s q (iX s.D (kL s q))
 else { s with D:=iX s.D (kL s q) }
def Bg (g n:Int) (I:List Int) (r:Rg):Bool:=r.dst == g && !(r.src == g) && decide (r.src<n) && r.seq == IntKind.u32.wrap (((I[r.src.toNat]?).getD 0)+1)
def CO (s:St) (r:Rg):St :=
 if og r=true∧Bg s.g s.n s.I r=true∧(iB s.M r.lo r.hi s.g).length≤1000 then
  { s with T:=sB (fun x:Row=>x.key) r.lo s.T++(r.rows++sA (fun x:Row=>x.key) r.lo r.hi s.T),M:=iB s.M r.lo r.hi s.g,D:=sB (fun x:aD=>x.key) r.lo s.D++(r.bz++sA (fun x:aD=>x.key) r.lo r.hi s.D),I:=s.I.set r.src.toNat r.seq }
 else s
def keepR (sq:Int) (q:List Rg):List Rg:=q.filter fun r=>!decide (r.seq≤sq)
def CP (s:St) (peer sq:Int):St:=if peer<s.n then { s with O:=s.O.set peer.toNat ((dO s.O peer).1,keepR sq (dO s.O peer).2) } else s
def LF (q:bH):Int:=if q.key<q.hi then q.hi else q.key
def yA (s:St) (q:bH):St×aD :=
 if kJ q=false then (s,rY)
 else if NR s.M s.g q.key (LF q)=true then (s,⟨q.c,q.s,q.key,3,false,0,Jj s.M s.g q.key (LF q)⟩)
 else if Ji s.D (lD q)=true then
  match s.D[yY s.D (lD q)]? with
  | some x=>if x.s<q.s then (sG s q,kL s q) else if x.s=q.s then (s,x) else (s,⟨q.c,q.s,q.key,4,false,0,0⟩)
  | none=>(s,rY)
 else (sG s q,kL s q)
def sU (s:St) (c:MC):St×aD :=
 if c.kind=1 then yA s c.q else if c.kind=2 then (CO s c.r,rY) else if c.kind=3 then (CP s c.peer c.seq,rY) else (s,rY)
def Jk (g n:Nat):St:=⟨g,n,[],[⟨0,0⟩],[],List.replicate n (1,[]),List.replicate n 0⟩
theorem Wk.snap {w w':World} {br:Nat} {R:MR} (h:Wk (cZ w) br R w'):∃ a,RI w' br R a∧(∀ x,Own br a x→w.heap.size≤x)∧GB none w w':=by
 obtain ⟨a,h⟩:=h;have kp:∀ x,x<w.heap.size→w'.heap[x]? = w.heap[x]?∧¬ Own br a x:=fun x hx=>by
  obtain ⟨o,ho⟩:∃ o,w.heap[x]? = some o:=⟨w.heap[x],by simp [hx]⟩;obtain ⟨h1,h2⟩:=h.pr x o ho;exact ⟨h1.trans ho.symm,h2⟩
 refine ⟨a,h.ri,fun x hx=>?_,h.os,h.out,?_,fun x hx _=>(kp x hx).1⟩
 ·by_cases hl:x<w.heap.size
  ·exact ((kp x hl).2 hx).elim
  ·omega
 ·by_cases h0:w.heap.size=0
  ·omega
  ·have h1:=(kp (w.heap.size - 1) (by omega)).1
   obtain ⟨o,ho⟩:∃ o,w.heap[w.heap.size - 1]? = some o:=⟨w.heap[w.heap.size - 1]'(by omega),by simp [show w.heap.size - 1<w.heap.size by omega]⟩;rw [ho] at h1;have:=ae h1;omega
theorem iI {w:World} {e:TypeId} {size n:Nat} {v:Value} {xs:List Value} (h:w.ownsRow 0 e size v n xs) (_hn:0<n):∃ g cap cur,v=.slice (some ⟨g,0,none⟩) n cap∧w.heap[g]? = some (.cells cur e)∧cur.toList.take (n*size)=xs∧n*size≤cur.size∧n≤cap:=by
 rcases h.2 with ⟨_,h1⟩ | ⟨g,cap,cur,h1,h0,h2,h3,h4,h5,h6⟩
 ·omega
 ·refine ⟨g,cap,cur,h1,h2,h6,?_,h3⟩
  have:=h.1;have h7:=congrArg List.length h6;rw [List.length_take,Array.length_toList] at h7;omega
def Made (sz g j g' i':Nat):Prop:=(g'<g∧i'<sz)∨(g'=g∧i'<j)
structure NV (A:bE) (w wk:World) (n sz g j:Nat) (B:Nat→Nat→Nat) (ad:Nat→Nat→fu):Prop where
 rep:∀ g' i',Made sz g j g' i'→RI wk (B g' i') (Fh A g' i' n sz) (ad g' i')
 new:∀ g' i' x,Made sz g j g' i'→Own (B g' i') (ad g' i') x→w.heap.size≤x
 sep:∀ g1 i1 g2 i2 x,Made sz g j g1 i1→Made sz g j g2 i2→Own (B g1 i1) (ad g1 i1) x→Own (B g2 i2) (ad g2 i2) x→g1=g2∧i1=i2
def ptrs (B:Nat→Nat→Nat) (g j:Nat):List Value:=(List.range j).map fun i=>.pointer (some ⟨B g i,0,none⟩)
def Aj (wk:World) (sz g:Nat) (B:Nat→Nat→Nat) (gl:List Value):Prop:=gl.length=g∧∀ g',g'<g→∃ bs ct cur,gl[g']? = some (.slice (some ⟨bs,0,none⟩) sz ct)∧sz≤ct∧wk.heap[bs]? = some (.cells cur 123)∧∀ i,i<sz→cur.toList[i]? = some (.pointer (some ⟨B g' i,0,none⟩))
section
variable {A:bE} {w wk vW:World} {n sz g j:Nat} {B:Nat→Nat→Nat} {ad:Nat→Nat→fu}
theorem NV.keep (h:NV A w wk n sz g j B ad) (k:Kz wk vW) (hb:∀ g' i' x,Made sz g j g' i'→Own (B g' i') (ad g' i') x→vW.heap[x]? = wk.heap[x]?):NV A w vW n sz g j B ad:=⟨fun g' i' hm=>(h.rep g' i' hm).keep k fun x hx=>hb g' i' x hm hx,h.new,h.sep⟩
theorem NV.ax (h:NV A w wk n sz g j B ad) (k:GB none wk vW):NV A w vW n sz g j B ad:=h.keep k.kz fun g' i' x hm hx=>k.block x ((h.rep g' i' hm).lt hx) nofun
theorem NV.Ga (h:NV A w wk n sz g j B ad) {r:Option Nat} (k:GB r wk vW) {t:TypeId} (ht:t ∉ Le) (hm:t≠135∧t≠80∧t≠97) (hr:∀ x,r=some x→∃ c,wk.heap[x]? = some (.cells c t)):NV A w vW n sz g j B ad:=by
 refine h.keep (fun t' ht' b c hb=>k.get hb fun e=>?_) fun g' i' x hM hx=>k.block x ((h.rep g' i' hM).lt hx) fun e=>?_
 ·obtain ⟨c',hc⟩:=hr b e.symm
  rw [hb] at hc;injection hc with hc;injection hc with _ hc;subst hc;exact ht ht'
 ·obtain ⟨c',hc⟩:=hr x e.symm
  rcases (h.rep g' i' hM).xu hx hc with q | q | q
  ·exact hm.1 q
  ·exact hm.2.1 q
  ·exact hm.2.2 q
theorem NV.more (h:NV A w wk n sz g j B ad) (hj:j<sz) (gw:GB none w wk) {br:Nat} (hW:Wk (cZ wk) br (Fh A g j n sz) vW):∃ jh,NV A w vW n sz g (j+1) (gX B g j br) jh∧GB none wk vW:=by
 obtain ⟨a,hR,hn,k⟩:=hW.snap;have h1:=h.ax k;have ne:∀ {g' i'},Made sz g j g' i'→¬ (g'=g∧i'=j):=fun hm e=>by unfold Made at hm;omega
 have cs:∀ {g' i'},Made sz g (j+1) g' i'→Made sz g j g' i'∨(g'=g∧i'=j):=fun {g' i'} hm=>by unfold Made at hm ⊢;omega
 refine ⟨gX ad g j a,⟨fun g' i' hm=>?_,fun g' i' x hm hx=>?_,fun g1 i1 g2 i2 x m1 m2 o1 o2=>?_⟩,k⟩
 ·rcases cs hm with q | ⟨rfl,rfl⟩
  ·rw [bK _ _ (ne q),bK _ _ (ne q)];exact h1.rep g' i' q
  ·rw [bX,bX];exact hR
 ·rcases cs hm with q | ⟨rfl,rfl⟩
  ·rw [bK _ _ (ne q),bK _ _ (ne q)] at hx;exact h.new g' i' x q hx
  ·rw [bX,bX] at hx;have:=hn x hx;have:=gw.size;omega
 ·rcases cs m1 with q1 | ⟨rfl,rfl⟩ <;> rcases cs m2 with q2 | ⟨e2,e2'⟩
  ·rw [bK _ _ (ne q1),bK _ _ (ne q1)] at o1
   rw [bK _ _ (ne q2),bK _ _ (ne q2)] at o2;exact h.sep _ _ _ _ x q1 q2 o1 o2
  ·subst e2;subst e2'
   rw [bK _ _ (ne q1),bK _ _ (ne q1)] at o1;rw [bX,bX] at o2;have:=hn x o2;have:=(h.rep _ _ q1).lt o1;omega
  ·rw [bX,bX] at o1
   rw [bK _ _ (ne q2),bK _ _ (ne q2)] at o2;have:=hn x o1;have:=(h.rep _ _ q2).lt o2;omega
  ·exact ⟨e2.symm,e2'.symm⟩
theorem NV.next (h:NV A w wk n sz g sz B ad):NV A w wk n sz (g+1) 0 B ad:=by
 have e:∀ {g' i'},Made sz (g+1) 0 g' i'→Made sz g sz g' i':=fun hm=>by unfold Made at hm ⊢;omega
 exact ⟨fun g' i' hm=>h.rep g' i' (e hm),fun g' i' x hm=>h.new g' i' x (e hm),fun g1 i1 g2 i2 x m1 m2=>h.sep g1 i1 g2 i2 x (e m1) (e m2)⟩
theorem SV {br:Nat}:ptrs (gX B g j br) g (j+1)=ptrs B g j++[.pointer (some ⟨br,0,none⟩)]:=by
 unfold ptrs;rw [List.range_succ,List.map_append];congr 1
 ·refine List.map_congr_left fun i hi=>?_
  have:=List.mem_range.1 hi;rw [bK _ _ (fun e=>by omega)]
 ·simp [bX]
theorem Aj.upd {gl:List Value} {br:Nat} (h:Aj wk sz g B gl):Aj wk sz g (gX B g j br) gl:=⟨h.1,fun g' hg'=>by
 obtain ⟨bs,ct,cur,h1,h2,h3,h4⟩:=h.2 g' hg';exact ⟨bs,ct,cur,h1,h2,h3,fun i hi=>by rw [bK _ _ (fun e=>by omega)];exact h4 i hi⟩⟩
theorem Aj.ax {gl:List Value} (h:Aj wk sz g B gl) (k:GB none wk vW):Aj vW sz g B gl:=⟨h.1,fun g' hg'=>by
 obtain ⟨bs,ct,cur,h1,h2,h3,h4⟩:=h.2 g' hg';exact ⟨bs,ct,cur,h1,h2,k.get h3 nofun,h4⟩⟩
theorem Aj.Ga {gl:List Value} (h:Aj wk sz g B gl) {r:Option Nat} (k:GB r wk vW) {t:TypeId} (ht:t≠123) (hr:∀ x,r=some x→∃ c,wk.heap[x]? = some (.cells c t)):Aj vW sz g B gl:=⟨h.1,fun g' hg'=>by
 obtain ⟨bs,ct,cur,h1,h2,h3,h4⟩:=h.2 g' hg';exact ⟨bs,ct,cur,h1,h2,k.get h3 fun e=>by
  obtain ⟨c,hc⟩:=hr bs e.symm;rw [h3] at hc;injection hc with hc;injection hc with _ hc;exact ht hc.symm,h4⟩⟩
end
section
variable {A:bE} (HA:bW A)
include HA
theorem aaG (w:World) (n f:Nat) (hn:1≤n∧n≤4) (hf:f≤2):af Tryz.prog 87 #[.int .i64 n,.int .i64 f] w (fun v w'=>∃ bc,v=.tuple #[.pointer (some ⟨bc,0,none⟩),.int .i64 0]∧w.heap.size≤bc∧r9 (cZ w) bc (aW.new A n (2*f+1)) w'∧Kz w w'):=by
 have q1:decide ((n:Int)<1)=false:=by simp;omega
 have q2:decide ((n:Int) > 4)=false:=by simp;omega
 have q4:decide ((f:Int) > 2)=false:=by simp;omega
 refine ah au mixed Tryz.func87 rfl rfl ?_;refine aj (fun c=>?_) (fun c=>(by rw [q1] at c;cases c));refine aj (fun c=>?_) (fun c=>(by rw [q2] at c;cases c));refine aj (fun c=>(by rw [q4] at c;cases c)) (fun c=>?_);refine fun w1 bc m1 g1 l1=>?_
 refine ⟨fun m s wk=>∃ (g:Nat) (gv:Value) (gl:List Value) (B:Nat→Nat→Nat) (ad:Nat→Nat→fu),m=n - g∧g≤n∧s=[(0,.int .i64 n),(1,.int .i64 f),(6,.pointer (some ⟨bc,0,none⟩)),(27,.int .i64 n),(28,.int .i64 g)]∧wk.heap[bc]? = some (.cells #[gv,.slice none 0 0] 118)∧wk.ownsRow 0 159 1 gv g gl∧(∀ x,gv.ownBlock=some x→w.heap.size≤x)∧Aj wk (2*f+1) g B gl∧NV A w wk n (2*f+1) g 0 B ad∧GB none w wk,⟨_,_,⟨0,.slice none 0 0,[],fun _ _=>0,fun _ _=>⟨0,0,0,0,0,0,.slice none 0 0,.slice none 0 0,.slice none 0 0,.slice none 0 0,.slice none 0 0,.slice none 0 0,.slice none 0 0⟩,rfl,Nat.zero_le _,rfl,m1,eG _ _ _,nofun,⟨rfl,fun g' hg'=>(by omega)⟩,⟨fun g' i' hm=>(by unfold Made at hm;omega),fun g' i' x hm=>(by unfold Made at hm;omega),fun g' i' _ _ x hm=>(by unfold Made at hm;omega)⟩,g1⟩,rfl,rfl,rfl,rfl,rfl,trivial⟩,?_⟩;rintro m s wg ⟨g,gv,gl,B,ad,rfl,hg,rfl,hc,hgo,hgn,vX,Gi,hgb⟩;refine aj (fun c=>?_) (fun c=>?_)
 ·have c1:g<n:=by simp at c;omega
  refine ⟨by omega,by omega,?_⟩;refine ⟨fun m s wk=>∃ (j:Nat) (av:Value) (B:Nat→Nat→Nat) (ad:Nat→Nat→fu),m=2*f+1 - j∧j≤2*f+1∧s=[(0,.int .i64 n),(1,.int .i64 f),(6,.pointer (some ⟨bc,0,none⟩)),(7,.int .i64 g),(8,av),(27,.int .i64 n),(28,.int .i64 g),(33,.int .i64 (2*(f:Int)+1)),(34,.int .i64 j)]∧wk.ownsRow 0 123 1 av j (ptrs B g j)∧(∀ x,av.ownBlock=some x→wg.heap.size≤x)∧Aj wk (2*f+1) g B gl∧NV A w wk n (2*f+1) g j B ad∧GB none wg wk,⟨_,_,⟨0,.slice none 0 0,B,ad,rfl,Nat.zero_le _,rfl,eG _ _ _,nofun,vX,Gi,GB.refl _ _⟩,rfl,rfl,rfl,rfl,rfl,rfl,rfl,rfl,rfl,trivial⟩,?_⟩;have adh:=vX;clear Gi vX;rintro m s wk ⟨j,av,B,ad,rfl,hj,rfl,hao,Y1,vX,Gi,nO⟩;refine aj (fun c=>?_) (fun c=>?_)
  ·have c2:j<2*f+1:=by simp at c;omega
   refine .inl ⟨by omega,.inl ⟨by omega,fun w2 b2 m2 g2 l2=>⟨_,_,_,m2,rfl,rfl,fun w3 m3 g3=>?_⟩⟩⟩;have g13:GB none wk w3:=g2.new g3 l2;refine ⟨_,_,m3,[.int .u8 g,.int .u8 j],rfl,rfl,by omega,by omega,_,YP HA g j n (2*f+1) c1 hn.2,?_⟩;rintro _ w4 ⟨br,rfl,hb,hW,k4⟩;have SY:=Gi.ax g13;obtain ⟨jh,S9,rZ⟩:=SY.more c2 ((hgb.trans nO).trans g13) hW;have gk4:GB none wk w4:=g13.trans rZ;refine fun w5 b5 m5 g5 l5=>?_
   have UH:GB none wk w5:=gk4.trans g5;obtain ⟨aa,ac,rfl⟩:=ag hao;have Y2:=aF hao (w1:=w5) fun x hx=>by obtain ⟨cur,hc⟩:=aG hao hx;exact UH.block x (ae hc) nofun
   refine ⟨_,[.pointer (some ⟨br,0,none⟩)],Y2,⟨_,_,m5,rfl,rfl,rfl⟩,by omega,fun v' w6 LG g6 n6=>?_⟩;refine ⟨by omega,_,_,⟨j+1,v',gX B g j br,jh,rfl,by omega,rfl,by rw [SV];exact LG,fun x hx=>(n6 x hx).elim (Y1 x) fun hl=>?_,?_,?_,GB.ownB (nO.trans UH) g6 Y1⟩,⟨rfl,rfl,rfl,rfl,rfl,rfl,rfl,rfl,rfl,trivial⟩,by omega⟩
   ·have:=(nO.trans UH).size;omega
   ·refine ⟨vX.1,fun g' hg'=>?_⟩
    obtain ⟨bs,ct,cur,h1,h2,h3,h4⟩:=(vX.ax UH).upd.2 g' hg';refine ⟨bs,ct,cur,h1,h2,g6.get h3 fun e=>?_,h4⟩;have e1:=Y1 bs e.symm;obtain ⟨bs',UI,cur',p1,p2,p3,p4⟩:=adh.2 g' hg';rw [h1] at p1;injection p1 with p1;injection p1 with p1;injection p1 with p1;injection p1 with p1;have:=ae p3;omega
   ·exact (S9.ax g5).Ga g6 (t:=123) (by decide) ⟨by decide,by decide,by decide⟩ fun x hx=>aG Y2 hx
  ·have c2:j=2*f+1:=by simp at c;omega
   subst c2;obtain ⟨ga,gc,rfl⟩:=ag hgo;have hck:=nO.get hc nofun;have hgo':=aF hgo (w1:=wk) fun x hx=>by obtain ⟨cur,hc⟩:=aG hgo hx;exact nO.block x (ae hc) nofun
   obtain ⟨bs,cap,cur,rfl,aT,htk,hsz,hcap⟩:=iI hao (by omega);refine ⟨_,_,hck,_,rfl,fun w2 b2 m2 g2 l2=>?_⟩;have Jl:=aF hgo' (w1:=w2) fun x hx=>by obtain ⟨cur,hc⟩:=aG hgo' hx;exact g2.block x (ae hc) nofun
   refine ⟨_,[.slice (some ⟨bs,0,none⟩) (2*f+1) cap],Jl,⟨_,_,m2,rfl,rfl,rfl⟩,by omega,fun P8 w3 ho3 g3 n3=>?_⟩;have hc3:w3.heap[bc]? = _:=g3.get (g2.get hck nofun) fun e=>by
    obtain ⟨c,hc'⟩:=aG Jl e.symm;rw [g2.get hck nofun] at hc';injection hc' with hc';injection hc' with _ hc';revert hc';decide
   obtain ⟨na,nc,rfl⟩:=ag ho3;refine ⟨_,_,_,hc3,rfl,rfl,fun w4 m4 g4=>?_⟩;have Y3:w.heap.size≤bc:=l1;have G2:GB none w w2:=(hgb.trans nO).trans g2;have G3:GB none w w3:=GB.ownB G2 g3 hgn;have G4:GB none w w4:=G3.new g4 Y3;have adi:=vX.ax g2;have adj:=adi.Ga g3 (t:=159) (by decide) fun x hx=>aG Jl hx
   have adk:=adj.Ga g4 (t:=118) (by decide) fun x hx=>⟨_,by cases hx;exact hc3⟩
   have SY:=(Gi.ax g2).Ga g3 (t:=159) (by decide) ⟨by decide,by decide,by decide⟩ fun x hx=>aG Jl hx
   have S9:=SY.Ga g4 (t:=118) (by decide) ⟨by decide,by decide,by decide⟩ fun x hx=>⟨_,by cases hx;exact hc3⟩
   have adl:w4.heap[bs]? = some (.cells cur 123):=g4.get (g3.get (g2.get aT nofun) fun e=>by
    obtain ⟨c,hc'⟩:=aG Jl e.symm;rw [g2.get aT nofun] at hc';injection hc' with hc';injection hc' with _ hc';revert hc';decide) fun e=>by
    cases e
    rw [aT] at hck;injection hck with hck;injection hck with _ hck;revert hck;decide
   refine ⟨by omega,_,_,⟨g+1,_,gl++[.slice (some ⟨bs,0,none⟩) (2*f+1) cap],B,ad,rfl,by omega,rfl,m4,aF ho3 fun x hx=>?_,fun x hx=>(n3 x hx).elim (hgn x) fun hl=>?_,⟨?_,fun g' hg'=>?_⟩,S9.next,G4⟩,⟨rfl,rfl,rfl,rfl,rfl,trivial⟩,by omega⟩
   ·obtain ⟨c,hc'⟩:=aG ho3 hx
    refine g4.block x (ae hc') fun e=>?_
    cases e
    rw [hc3] at hc';injection hc' with hc';injection hc' with _ hc';revert hc';decide
   ·have:=G2.size;omega
   ·rw [List.length_append,vX.1];rfl
   ·by_cases e:g'<g
    ·obtain ⟨bs',UI,cur',p1,p2,p3,p4⟩:=adk.2 g' e
     exact ⟨bs',UI,cur',by rw [List.getElem?_append_left (by rw [vX.1];exact e)];exact p1,p2,p3,p4⟩
    ·have e:g'=g:=by omega
     subst e;refine ⟨bs,cap,cur,by rw [List.getElem?_append_right (by rw [vX.1];exact Nat.le_refl _),vX.1,Nat.sub_self];rfl,?_,adl,fun i hi=>?_⟩
     ·exact hcap
     ·have:=congrArg (fun l=>l[i]?) htk
      simp only [Nat.mul_one] at this;rw [List.getElem?_take,if_pos hi] at this;rw [this];simp [ptrs,hi]
 ·have c1:g=n:=by simp at c;omega
  subst c1;obtain ⟨bg,cap,cur,rfl,aT,htk,hsz,hcap⟩:=iI hgo (by omega);refine ⟨bc,rfl,l1,⟨_,_,B,ad,⟨⟨hc,eG _ _ _,Nat.zero_le _,⟨bg,cap,cur,_,rfl,hcap,aT,by decide,fun g' hg'=>?_⟩,fun g' i' hg' hi'=>Gi.rep g' i' (.inl ⟨hg',hi'⟩),fun g1 i1 g2 i2 x p1 p2 p3 p4=>Gi.sep g1 i1 g2 i2 x (.inl ⟨p1,p2⟩) (.inl ⟨p3,p4⟩),nofun⟩,fun b o hb=>⟨hgb.get hb nofun,fun hC=>?_⟩,hgb.os,hgb.out⟩⟩,hgb.kz⟩
  ·obtain ⟨bs',UI,cur',p1,p2,p3,p4⟩:=vX.2 g' hg'
   refine ⟨bs',UI,cur',_,?_,p2,p3,by decide,p4⟩;have hg'':g'<g:=hg';refine Eq.trans ?_ p1;rw [← htk,List.getElem?_take,if_pos (by omega)]
  ·have hl:=ae hb
   rcases hC with e | e | ⟨g',i',p1,p2,p3⟩
   ·have Y3:w.heap.size≤bc:=l1
    omega
   ·cases e
   ·have:=Gi.new g' i' b (.inl ⟨p1,p2⟩) p3;omega
end
end
end Go.Proofs.YtignemioillaiabGreat
