/- What is right (4): votes, messages. -/
import Derived.Test.YtignemioillaiabGreatG30
namespace Go.Proofs.YtignemioillaiabGreat
set_option maxHeartbeats 8000000
set_option maxRecDepth 100000
section
open Go Go.Conc
def mW (l:List MV):Bool:=jG (λ v:MV=>kN v.c) (λ y x=>decide (y.slot<x.slot)) l
def Au (p:az):Bool:=p.c == 0 && (p.s == 0 && (p.key == 0 && (p.k == 0 && (p.found == false && (p.v == 0 && p.g == 0)))))
def Av (b:bE):Bool:=(b.n:Int) == 0 && (b.id:Int) == 0
def mX (m:MM):Bool:=oh m.q && (Au m.p && (Av m.b && ((m.s:Int) == 0 && (m.c.kind == 0 && (xC m.c && ((m.vs.length:Int) == 0 && (sF m.r && (m.peer == 0 && m.seq == 0))))))))
def eT (m:MM):Bool:=if m.kind=1 then kI m.q && mX { m with q:=qg } else if m.kind=2 then tL m.p && mX { m with p:=rY } else if m.kind=3 then mX { m with b:=⟨0,0⟩ } else if m.kind=5 then mX { m with b:=⟨0,0⟩ } else if m.kind=4 then mW m.vs && mX { m with b:=⟨0,0⟩,vs:=[] } else if m.kind=6 then kN m.c && mX { m with b:=⟨0,0⟩,s:=0,c:=nW } else if m.kind=7 then mX { m with b:=⟨0,0⟩,s:=0 } else if m.kind=8 then kN m.c && mX { m with s:=0,c:=nW } else if m.kind=9 then og m.r && mX { m with r:=pG } else if m.kind=10 then decide (m.peer<4) && mX { m with peer:=0,seq:=0 } else false
theorem L9 {l:List MV} {ps:List (Value×Value)} {k:Nat} {x:MV} {p:Value×Value} (_hl:ps.length=l.length) (hx:l[k]? = some x) (hp:ps[k]? = some p) {cs:List Value} {off:Nat} (hcut:aQ cs off (l.length*20)=(List.zipWith (λ x p=>jA x p.1 p.2) l ps).flatten):aQ cs (off+k*20) 20=jA x p.1 p.2:=by
 have hk:=(List.getElem?_eq_some_iff.1 hx).1;have h0:(l.zip ps)[k]? = some (x,p):=by rw [List.getElem?_zip_eq_some];exact ⟨hx,hp⟩
 have h1:=jW (f:=λ x:MV×Value×Value=>jA x.1 x.2.1 x.2.2) (size:=20) (λ _=>rfl) (l.zip ps) k (x,p) h0;rw [List.flatMap_def,<- Jn,<- hcut,uk _ _ _ _ _ (by omega)] at h1;exact h1
section
variable {w:World}
theorem Tu {l:List MV} {v:Value} (hv:bV w v l):af Tryz.prog 115 #[v] w (λ v w'=>v=.bool (mW l)/\GB none w w'):=by
 obtain ⟨ps,hp,⟨a,c,rfl,hcap,hlen,hv⟩,hr⟩:=hv;refine aj ah mixed Tryz.func115 rfl rfl ?_;refine au (λ d=>?_) (λ d=>?_)
 ·exact ⟨congrArg Value.bool (yC (by simp at d;omega)).symm,GB.refl _ _⟩
 have yu:l.length<=255:=by simp at d;omega
 refine ⟨λ m s wk=>∃ k:Nat,m=l.length - k/\k<=l.length/\s=[(0,.slice a l.length c),(8,.slice a l.length c),(9,.int .i64 l.length),(10,.int .i64 k)]/\GB none w wk/\(List.range k).all (vY (λ v:MV=>kN v.c) (λ y x=>decide (y.slot<x.slot)) l)=true,⟨_,_,⟨0,rfl,Nat.zero_le _,rfl,GB.refl _ _,rfl⟩,rfl,rfl,rfl,rfl,trivial⟩,?_⟩;rintro m s wk ⟨k,rfl,hk,rfl,gk,hall⟩;refine au (λ d=>?_) (λ d=>?_)
 ·have d1:k<l.length:=by have:=of_decide_eq_true d;omega
  obtain ⟨x,hx⟩:∃ x,l[k]? = some x:=⟨l[k],by simp [d1]⟩;obtain ⟨⟨p1,p2⟩,hpk⟩:∃ p,ps[k]? = some p:=⟨ps[k]'(by omega),by simp [show k<ps.length by omega]⟩;have hrx:=hr k x _ hx hpk;obtain ⟨x1,x2,x3,x4,x5,x6,q1,q2⟩:=hrx.sl;dsimp only at q1 q2 hrx;subst q1 q2;rcases hv with ⟨_,h0⟩ | ⟨b,off,cs,rfl,hb,hcut⟩
  ·omega
  have hb1:=gk.get hb nofun;refine ⟨⟨by omega,by omega⟩,_,_,hb1,jA x (.slice x1 x2 x3) (.slice x4 x5 x6),by show aQ cs.toList (off+(k:Int).toNat*20) 20=_;rw [Int.toNat_natCast];exact L9 hp hx hpk hcut,rfl,λ w2 b2 m2 g2 l2=>⟨_,_,_,m2,rfl,rfl,λ w3 m3 g3=>?_⟩⟩;have G:=gk.trans (g2.new g3 l2);have hb3:=G.get hb nofun;have last:(∀ j y,k=j+1->l[j]? = some y->decide (y.slot<x.slot)=true)->∃ Post,af Tryz.prog 116 #[.agg (dz x.c (.slice x1 x2 x3) (.slice x4 x5 x6)).toArray] w3 Post/\∀ v w4,Post v w4->∃ z,v=.bool z/\GB none w3 w4/\(z=false->mW l=false)/\(z=true->(List.range (k+1)).all (vY (λ v:MV=>kN v.c) (λ y x=>decide (y.slot<x.slot)) l)=true):=λ hlt=>⟨_,yE (c:=x.c) (hrx.kz G.kz),by
   rintro _ w4 ⟨rfl,g4⟩;exact ⟨_,rfl,g4,λ hz=>xB hx hz,λ hz=>uF hall (uU hx hz hlt)⟩⟩
  refine ⟨by kernel_rfl,au (λ e=>?_) (λ e=>?_)⟩
  ·have e1:0<k:=by simp at e;omega
   obtain ⟨j,rfl⟩:∃ j,k=j+1:=⟨k - 1,by omega⟩;obtain ⟨y,hy⟩:∃ y,l[j]? = some y:=⟨l[j]'(by omega),by simp [show j<l.length by omega]⟩;obtain ⟨p',hpj⟩:∃ p,ps[j]? = some p:=⟨ps[j]'(by omega),by simp [show j<ps.length by omega]⟩;have ej:(((j+1:Nat):Int) - 1).toNat=j:=by omega
   refine ⟨_,_,m3,_,rfl,⟨by omega,by omega⟩,⟨by omega,by omega⟩,_,_,hb3,.int .u32 y.slot,by show cs.toList[off+(((j+1:Nat):Int) - 1).toNat*20+0]? = _;rw [ej];exact iy (L9 hp hy hpj hcut) rfl (by decide),?_⟩;refine au (λ q=>?_) (λ q=>?_)
   ·exact ⟨congrArg Value.bool (C8 hx hy (by simp at q;simp;omega)).symm,G⟩
   ·obtain ⟨Post,h1,h2⟩:=last λ i y' ei hy'=>by cases ei;rw [hy] at hy';cases hy';simp at q;simp;omega
    refine ⟨_,_,m3,dz x.c (.slice x1 x2 x3) (.slice x4 x5 x6),rfl,rfl,_,h1,λ v w4 hv=>?_⟩;obtain ⟨z,rfl,g4,z1,z2⟩:=h2 v w4 hv;cases z
    ·exact ⟨congrArg Value.bool (z1 rfl).symm,G.trans g4⟩
    ·exact ⟨⟨by omega,by omega⟩,_,_,⟨j+2,rfl,by omega,rfl,G.trans g4,z2 rfl⟩,⟨rfl,rfl,rfl,rfl,trivial⟩,by omega⟩
  ·have e1:k=0:=by simp at e;omega
   subst e1;obtain ⟨Post,h1,h2⟩:=last λ j y e _=>absurd e (Nat.succ_ne_zero j).symm
   refine ⟨_,_,m3,dz x.c (.slice x1 x2 x3) (.slice x4 x5 x6),rfl,rfl,_,h1,λ v w4 hv=>?_⟩;obtain ⟨z,rfl,g4,z1,z2⟩:=h2 v w4 hv;cases z
   ·exact ⟨congrArg Value.bool (z1 rfl).symm,G.trans g4⟩
   ·exact ⟨⟨by omega,by omega⟩,_,_,⟨1,rfl,by omega,rfl,G.trans g4,z2 rfl⟩,⟨rfl,rfl,rfl,rfl,trivial⟩,by omega⟩
 ·have d1:k=l.length:=by have:=of_decide_eq_false d;omega
  subst d1;exact ⟨congrArg Value.bool (by unfold mW jG;rw [hall];simp [yu]),gk⟩
variable {m:MM} {rv dv vv rv' dS:Value}
theorem gG (hc:aM w m.c.r rv dv) (hv:bV w vv m.vs) (hr:aM w m.r rv' dS):af Tryz.prog 118 #[.agg (dL m rv dv vv rv' dS).toArray] w (λ v w'=>v=.bool (mX m)/\GB none w w'):=by
 obtain ⟨_,_,_,_,_,_,rfl,rfl⟩:=hc.sl;obtain ⟨_,_,_,_,_,_,rfl,rfl⟩:=hr.sl;obtain ⟨_,_,rfl⟩:=hv.sl;refine aj ah mixed Tryz.func118 rfl rfl ?_;refine λ w1 b1 m1 g1 l1=>?_
 have hc1:=hc.kz g1.kz;have hr1:=hr.kz g1.kz;refine ⟨_,_,m1,m.q.cells,rfl,rfl,?_⟩;refine au (λ c0=>?_) (λ c0=>?_)
 ·refine ⟨_,_,m1,m.p.cells,rfl,rfl,?_⟩
  refine au (λ c1=>?_) (λ c1=>?_)
  ·refine ⟨_,_,m1,[.int .u32 m.b.n,.int .u8 m.b.id],rfl,rfl,?_⟩
   refine au (λ c2=>?_) (λ c2=>?_)
   ·refine ⟨_,_,m1,_,rfl,?_⟩
    refine au (λ c3=>?_) (λ c3=>?_)
    ·refine ⟨_,_,m1,_,rfl,?_⟩
     refine au (λ c4=>?_) (λ c4=>?_)
     ·refine ⟨_,_,m1,dz m.c _ _,rfl,rfl,_,xD (c:=m.c) hc1,?_⟩
      rintro _ w2 ⟨rfl,g2⟩;have m2:=g2.get m1 nofun;have g12:=g1.trans g2;refine au (λ c5=>?_) (λ c5=>?_)
      ·refine ⟨_,_,m2,_,rfl,?_⟩
       refine au (λ c6=>?_) (λ c6=>?_)
       ·refine ⟨_,_,m2,eO m.r _ _,rfl,rfl,_,Ez (r:=m.r) (hr1.kz g2.kz),?_⟩
        rintro _ w3 ⟨rfl,g3⟩;have m3:=g3.get m2 nofun;have g13:=g12.trans g3;refine au (λ c7=>?_) (λ c7=>?_)
        ·refine ⟨_,_,m3,_,rfl,?_⟩
         refine au (λ c8=>?_) (λ c8=>?_)
         ·refine ⟨_,_,m3,_,rfl,?_⟩
          exact ⟨congrArg Value.bool (by grind [mX,oh,Au,Av]),g13⟩
         ·exact ⟨congrArg Value.bool (by grind [mX,oh,Au,Av]),g13⟩
        ·exact ⟨congrArg Value.bool (by grind [mX,oh,Au,Av]),g13⟩
       ·exact ⟨congrArg Value.bool (by grind [mX,oh,Au,Av]),g12⟩
      ·exact ⟨congrArg Value.bool (by grind [mX,oh,Au,Av]),g12⟩
     ·exact ⟨congrArg Value.bool (by grind [mX,oh,Au,Av]),g1⟩
    ·exact ⟨congrArg Value.bool (by grind [mX,oh,Au,Av]),g1⟩
   ·exact ⟨congrArg Value.bool (by grind [mX,oh,Au,Av]),g1⟩
  ·exact ⟨congrArg Value.bool (by grind [mX,oh,Au,Av]),g1⟩
 ·exact ⟨congrArg Value.bool (by grind [mX,oh,Au,Av]),g1⟩
end
def fI (a b:Int):Int:=if a<b then -1 else if b<a then 1 else 0
def Md (a b:Int):Int:=if a=0 then b else a
def jb (a b:az):Int:=Md (fI a.key b.key) (fI a.c b.c)
def dQ {α:Type} (f:α->Int) (l:List α):Nat:=l.countP (λ x=>decide (f x<0))
def mY {α:Type} (f:α->Int) (l:List α):Bool:=match l[dQ f l]? with | some x=>f x == 0 | none=>false
theorem um {a b:Int}:fI a b<0↔a<b:=by
 unfold fI;split
 ·simp;omega
 ·split <;> omega
theorem lV {a b:Int}:fI a b=0↔a=b:=by
 unfold fI;split
 ·simp;omega
 ·split <;> omega
theorem Bt {a b:az}:jb a b<0↔a.key<b.key\/a.key=b.key/\a.c<b.c:=by
 unfold jb Md;split
 ·rename_i h
  rw [lV] at h;rw [um];omega
 ·rename_i h
  rw [lV] at h;rw [um];omega
theorem WG {a b:az}:jb a b=0↔a.key=b.key/\a.c=b.c:=by
 unfold jb Md;split
 ·rename_i h
  rw [lV] at h;rw [lV];omega
 ·rename_i h
  rw [lV] at h;rw [lV];omega
def Aw {α:Type} (f:α->Int) (l:List α):Prop:=∀ (i j:Nat) (x y:α),i<=j->l[i]? = some x->l[j]? = some y->f y<0->f x<0
def gq (T:List Row):Prop:=T.Pairwise (λ a b=>a.key<b.key)
def iI (D:List az):Prop:=D.Pairwise (λ a b=>a.key<b.key\/a.key=b.key/\a.c<b.c)
theorem Bu {α:Type} {R:α->α->Prop} {l:List α} (h:l.Pairwise R) {i j:Nat} {x y:α} (hij:i<j) (hx:l[i]? = some x) (hy:l[j]? = some y):R x y:=by
 obtain ⟨hi,rfl⟩:=List.getElem?_eq_some_iff.1 hx;obtain ⟨hj,rfl⟩:=List.getElem?_eq_some_iff.1 hy;exact List.pairwise_iff_getElem.1 h i j hi hj hij
theorem U0 {T:List Row} (h:gq T) (key:Int):Aw (λ x:Row=>fI x.key key) T:=by
 intro i j x y hij hx hy hl;rcases Nat.lt_or_eq_of_le hij with h1 | rfl
 ·have:=Bu h h1 hx hy
  rw [um] at hl |-;omega
 ·rw [hx] at hy;cases hy;exact hl
theorem U1 {D:List az} (h:iI D) (q:az):Aw (λ x:az=>jb x q) D:=by
 intro i j x y hij hx hy hl;rcases Nat.lt_or_eq_of_le hij with h1 | rfl
 ·have:=Bu h h1 hx hy
  rw [Bt] at hl |-;omega
 ·rw [hx] at hy;cases hy;exact hl
theorem Bw {α:Type} (f:α->Int) (l:List α):dQ f l<=l.length:=List.countP_le_length
theorem sG {α:Type} (f:α->Int):∀ (l:List α),Aw f l->(∀ (t:Nat) (x:α),t<dQ f l->l[t]? = some x->f x<0)/\(∀ (t:Nat) (x:α),dQ f l<=t->l[t]? = some x->0<=f x)
 | [],_=>⟨λ t x _ h=>by simp at h,λ t x _ h=>by simp at h⟩
 | a::r,h=>by
  have hr:Aw f r:=λ i j x y hij hx hy=>h (i+1) (j+1) x y (by omega) (by simpa using hx) (by simpa using hy)
  obtain ⟨h1,h2⟩:=sG f r hr;by_cases ha:f a<0
  ·have hp:dQ f (a::r)=dQ f r+1:=by unfold dQ;rw [List.countP_cons_of_pos (by simp [ha])]
   rw [hp];refine ⟨λ t x ht hx=>?_,λ t x ht hx=>?_⟩
   ·cases t with
    | zero=>simp at hx;subst hx;exact ha
    | succ t=>exact h1 t x (by omega) (by simpa using hx)
   ·cases t with
    | zero=>omega
    | succ t=>exact h2 t x (by omega) (by simpa using hx)
  ·have hz:dQ f r=0:=by
    unfold dQ;rw [List.countP_eq_zero];intro x hx;obtain ⟨t,ht,rfl⟩:=List.getElem_of_mem hx;intro hc;exact ha (h 0 (t+1) a r[t] (Nat.zero_le _) rfl (by simp [ht]) (by simpa using hc))
   have hp:dQ f (a::r)=0:=by
    unfold dQ at hz |-;rw [List.countP_cons_of_neg (by simp [ha]),hz]
   rw [hp];refine ⟨λ t x ht _=>by omega,λ t x ht hx=>?_⟩;cases t with
   | zero=>simp at hx;subst hx;exact Int.not_lt.1 ha
   | succ t=>exact h2 t x (by omega) (by simpa using hx)
def j5 {α:Type} (l:List α) (i:Nat) (x:α):List α:=l.take i++(x::l.drop i)
abbrev sH (T:List Row) (key:Int):Nat:=dQ (λ x:Row=>fI x.key key) T
abbrev kJ (T:List Row) (key:Int):Bool:=mY (λ x:Row=>fI x.key key) T
abbrev zh (D:List az) (q:az):Nat:=dQ (λ x:az=>jb x q) D
abbrev Jz (D:List az) (q:az):Bool:=mY (λ x:az=>jb x q) D
def q8 (T:List Row) (key:Int):Int:=if kJ T key then ((T[sH T key]?).map Row.val).getD 0 else 0
def q9 (T:List Row) (key:Int):Int:=if kJ T key then 2 else if 8<=T.length then 5 else 2
def nQ (T:List Row) (key v:Int):List Row:=if kJ T key then T.set (sH T key) ⟨key,v⟩ else if 8<=T.length then T else j5 T (sH T key) ⟨key,v⟩
def wN (T:List Row) (key:Int):List Row:=if kJ T key then T.eraseIdx (sH T key) else T
def jc (D:List az) (q:az):List az:=if Jz D q then D.set (zh D q) q else j5 D (zh D q) q
def Ch (lo hi:Int) (p:Pc):Bool:=decide (lo<p.f) && decide (p.f<=hi)
def JA (m:List Pc) (g lo hi:Int):Int:=if own 0 m lo≠g then own 0 m lo else ((m.find? (Ch lo hi)).map Pc.g).getD 0
def Oe (m:List Pc) (g lo hi:Int):Bool:=if own 0 m lo≠g then true else (m.find? (Ch lo hi)).isSome
def sB {α:Type} (f:α->Int) (lo:Int) (l:List α):List α:=l.filter λ x=>decide (f x<lo)
def sA {α:Type} (f:α->Int) (lo hi:Int) (l:List α):List α:=l.filter λ x=>!decide (f x<lo) && decide (hi<f x)
def sW {α:Type} (f:α->Int) (lo hi:Int) (l:List α):List α:=l.filter λ x=>!decide (f x<lo) && !decide (hi<f x)
def yF (T:List Row) (lo hi:Int):List Row:=sB (λ x:Row=>x.key) lo T++sA (λ x:Row=>x.key) lo hi T
def yG (D:List az) (lo hi:Int):List az:=sB (λ x:az=>x.key) lo D++sA (λ x:az=>x.key) lo hi D
def Ay (g j next lo hi:Int) (T:List Row) (D:List az):Rg:=⟨g,j,next,lo,hi,sW (λ x:Row=>x.key) lo hi T,sW (λ x:az=>x.key) lo hi D⟩
def dU (O:List (Int×List Rg)) (k:Int):Int×List Rg:=(O[k.toNat]?).getD (0,[])
def gK (s:St) (q:bN):Bool:=!(q.to == s.g) && decide (q.to<s.n) && decide ((dU s.O q.to).2.length<4) && decide ((iF s.M q.key q.hi q.to).length<=8)
def kY (q:bN):az:=⟨q.c,q.s,q.key,0,false,0,0⟩
def kK (s:St) (q:bN):az :=
 if q.k=1 then ⟨q.c,q.s,q.key,1,kJ s.T q.key,q8 s.T q.key,0⟩
 else if q.k=2 then ⟨q.c,q.s,q.key,q9 s.T q.key,false,0,0⟩
 else if q.k=3 then ⟨q.c,q.s,q.key,2,false,0,0⟩
 else if gK s q then ⟨q.c,q.s,q.key,2,false,0,0⟩ else ⟨q.c,q.s,q.key,5,false,0,0⟩
def Y1 (s:St) (q:bN) (D1:List az):St:={ s with T:=yF s.T q.key q.hi,M:=iF s.M q.key q.hi q.to,D:=yG D1 q.key q.hi,O:=s.O.set q.to.toNat (IntKind.u32.wrap ((dU s.O q.to).1+1),(dU s.O q.to).2++[Ay s.g q.to (dU s.O q.to).1 q.key q.hi s.T D1]) }
def sJ (s:St) (q:bN):St :=
 if q.k=2 then { s with T:=nQ s.T q.key q.v,D:=jc s.D (kK s q) }
 else if q.k=3 then { s with T:=wN s.T q.key,D:=jc s.D (kK s q) }
 else if q.k=4/\gK s q=true then Y1 s q (jc s.D (kK s q))
 else { s with D:=jc s.D (kK s q) }
def Bz (g n:Int) (I:List Int) (r:Rg):Bool:=r.dst == g && !(r.src == g) && decide (r.src<n) && r.seq == IntKind.u32.wrap (((I[r.src.toNat]?).getD 0)+1)
def Db (s:St) (r:Rg):St :=
 if og r=true/\Bz s.g s.n s.I r=true/\(iF s.M r.lo r.hi s.g).length<=1000 then
  { s with T:=sB (λ x:Row=>x.key) r.lo s.T++(r.rows++sA (λ x:Row=>x.key) r.lo r.hi s.T),M:=iF s.M r.lo r.hi s.g,D:=sB (λ x:az=>x.key) r.lo s.D++(r.aY++sA (λ x:az=>x.key) r.lo r.hi s.D),I:=s.I.set r.src.toNat r.seq }
 else s
def keepR (sq:Int) (q:List Rg):List Rg:=q.filter λ r=>!decide (r.seq<=sq)
def De (s:St) (peer sq:Int):St:=if peer<s.n then { s with O:=s.O.set peer.toNat ((dU s.O peer).1,keepR sq (dU s.O peer).2) } else s
def Me (q:bN):Int:=if q.key<q.hi then q.hi else q.key
def yH (s:St) (q:bN):St×az :=
 if kI q=false then (s,rY)
 else if Oe s.M s.g q.key (Me q)=true then (s,⟨q.c,q.s,q.key,3,false,0,JA s.M s.g q.key (Me q)⟩)
 else if Jz s.D (kY q)=true then
  match s.D[zh s.D (kY q)]? with
  | some x=>if x.s<q.s then (sJ s q,kK s q) else if x.s=q.s then (s,x) else (s,⟨q.c,q.s,q.key,4,false,0,0⟩)
  | none=>(s,rY)
 else (sJ s q,kK s q)
def sU (s:St) (c:MC):St×az :=
 if c.kind=1 then yH s c.q else if c.kind=2 then (Db s c.r,rY) else if c.kind=3 then (De s c.peer c.seq,rY) else (s,rY)
def JB (g n:Nat):St:=⟨g,n,[],[⟨0,0⟩],[],List.replicate n (1,[]),List.replicate n 0⟩
theorem Wk.snap {w w':World} {br:Nat} {R:MR} (h:Wk (dK w) br R w'):∃ a,RI w' br R a/\(∀ x,Own br a x->w.heap.size<=x)/\GB none w w':=by
 obtain ⟨a,h⟩:=h;have kp:∀ x,x<w.heap.size->w'.heap[x]? = w.heap[x]?/\¬ Own br a x:=λ x hx=>by
  obtain ⟨o,ho⟩:∃ o,w.heap[x]? = some o:=⟨w.heap[x],by simp [hx]⟩;obtain ⟨h1,h2⟩:=h.pr x o ho;exact ⟨h1.trans ho.symm,h2⟩
 refine ⟨a,h.ri,λ x hx=>?_,h.os,h.out,?_,λ x hx _=>(kp x hx).1⟩
 ·by_cases hl:x<w.heap.size
  ·exact ((kp x hl).2 hx).elim
  ·omega
 ·by_cases h0:w.heap.size=0
  ·omega
  ·have h1:=(kp (w.heap.size - 1) (by omega)).1
   obtain ⟨o,ho⟩:∃ o,w.heap[w.heap.size - 1]? = some o:=⟨w.heap[w.heap.size - 1]'(by omega),by simp [show w.heap.size - 1<w.heap.size by omega]⟩;rw [ho] at h1;have:=ag h1;omega
theorem jD {w:World} {e:TypeId} {size n:Nat} {v:Value} {xs:List Value} (h:w.ownsRow 0 e size v n xs) (_hn:0<n):∃ g cap cur,v=.slice (some ⟨g,0,none⟩) n cap/\w.heap[g]? = some (.cells cur e)/\cur.toList.take (n*size)=xs/\n*size<=cur.size/\n<=cap:=by
 rcases h.2 with ⟨_,h1⟩ | ⟨g,cap,cur,h1,h0,h2,h3,h4,h5,h6⟩
 ·omega
 ·refine ⟨g,cap,cur,h1,h2,h6,?_,h3⟩
  have:=h.1;have h7:=congrArg List.length h6;rw [List.length_take,Array.length_toList] at h7;omega
def Made (sz g j g' i':Nat):Prop:=(g'<g/\i'<sz)\/(g'=g/\i'<j)
structure NV (A:aT) (w wk:World) (n sz g j:Nat) (B:Nat->Nat->Nat) (ad:Nat->Nat->fH):Prop where
 rep:∀ g' i',Made sz g j g' i'->RI wk (B g' i') (CZ A g' i' n sz) (ad g' i')
 new:∀ g' i' x,Made sz g j g' i'->Own (B g' i') (ad g' i') x->w.heap.size<=x
 sep:∀ g1 i1 g2 i2 x,Made sz g j g1 i1->Made sz g j g2 i2->Own (B g1 i1) (ad g1 i1) x->Own (B g2 i2) (ad g2 i2) x->g1=g2/\i1=i2
def ptrs (B:Nat->Nat->Nat) (g j:Nat):List Value:=(List.range j).map λ i=>.pointer (some ⟨B g i,0,none⟩)
def Az (wk:World) (sz g:Nat) (B:Nat->Nat->Nat) (gl:List Value):Prop:=gl.length=g/\∀ g',g'<g->∃ bs ct cur,gl[g']? = some (.slice (some ⟨bs,0,none⟩) sz ct)/\sz<=ct/\wk.heap[bs]? = some (.cells cur 123)/\∀ i,i<sz->cur.toList[i]? = some (.pointer (some ⟨B g' i,0,none⟩))
section
variable {A:aT} {w wk vZ:World} {n sz g j:Nat} {B:Nat->Nat->Nat} {ad:Nat->Nat->fH}
theorem NV.keep (h:NV A w wk n sz g j B ad) (k:Kz wk vZ) (hb:∀ g' i' x,Made sz g j g' i'->Own (B g' i') (ad g' i') x->vZ.heap[x]? = wk.heap[x]?):NV A w vZ n sz g j B ad:=⟨λ g' i' hm=>(h.rep g' i' hm).keep k λ x hx=>hb g' i' x hm hx,h.new,h.sep⟩
theorem NV.ax (h:NV A w wk n sz g j B ad) (k:GB none wk vZ):NV A w vZ n sz g j B ad:=h.keep k.kz λ g' i' x hm hx=>k.block x ((h.rep g' i' hm).lt hx) nofun
theorem NV.Gv (h:NV A w wk n sz g j B ad) {r:Option Nat} (k:GB r wk vZ) {t:TypeId} (ht:t ∉ Lu) (hm:t≠135/\t≠80/\t≠97) (hr:∀ x,r=some x->∃ c,wk.heap[x]? = some (.cells c t)):NV A w vZ n sz g j B ad:=by
 refine h.keep (λ t' ht' b c hb=>k.get hb λ e=>?_) λ g' i' x hM hx=>k.block x ((h.rep g' i' hM).lt hx) λ e=>?_
 ·obtain ⟨c',hc⟩:=hr b e.symm
  rw [hb] at hc;injection hc with hc;injection hc with _ hc;subst hc;exact ht ht'
 ·obtain ⟨c',hc⟩:=hr x e.symm
  rcases (h.rep g' i' hM).Aq hx hc with q | q | q
  ·exact hm.1 q
  ·exact hm.2.1 q
  ·exact hm.2.2 q
theorem NV.more (h:NV A w wk n sz g j B ad) (hj:j<sz) (gw:GB none w wk) {br:Nat} (hW:Wk (dK wk) br (CZ A g j n sz) vZ):∃ jo,NV A w vZ n sz g (j+1) (fB B g j br) jo/\GB none wk vZ:=by
 obtain ⟨a,hR,hn,k⟩:=hW.snap;have h1:=h.ax k;have ne:∀ {g' i'},Made sz g j g' i'->¬ (g'=g/\i'=j):=λ hm e=>by unfold Made at hm;omega
 have cs:∀ {g' i'},Made sz g (j+1) g' i'->Made sz g j g' i'\/(g'=g/\i'=j):=λ {g' i'} hm=>by unfold Made at hm |-;omega
 refine ⟨fB ad g j a,⟨λ g' i' hm=>?_,λ g' i' x hm hx=>?_,λ g1 i1 g2 i2 x m1 m2 o1 o2=>?_⟩,k⟩
 ·rcases cs hm with q | ⟨rfl,rfl⟩
  ·rw [bz _ _ (ne q),bz _ _ (ne q)];exact h1.rep g' i' q
  ·rw [bL,bL];exact hR
 ·rcases cs hm with q | ⟨rfl,rfl⟩
  ·rw [bz _ _ (ne q),bz _ _ (ne q)] at hx;exact h.new g' i' x q hx
  ·rw [bL,bL] at hx;have:=hn x hx;have:=gw.size;omega
 ·rcases cs m1 with q1 | ⟨rfl,rfl⟩ <;> rcases cs m2 with q2 | ⟨e2,e2'⟩
  ·rw [bz _ _ (ne q1),bz _ _ (ne q1)] at o1
   rw [bz _ _ (ne q2),bz _ _ (ne q2)] at o2;exact h.sep _ _ _ _ x q1 q2 o1 o2
  ·subst e2;subst e2'
   rw [bz _ _ (ne q1),bz _ _ (ne q1)] at o1;rw [bL,bL] at o2;have:=hn x o2;have:=(h.rep _ _ q1).lt o1;omega
  ·rw [bL,bL] at o1
   rw [bz _ _ (ne q2),bz _ _ (ne q2)] at o2;have:=hn x o1;have:=(h.rep _ _ q2).lt o2;omega
  ·exact ⟨e2.symm,e2'.symm⟩
theorem NV.next (h:NV A w wk n sz g sz B ad):NV A w wk n sz (g+1) 0 B ad:=by
 have e:∀ {g' i'},Made sz (g+1) 0 g' i'->Made sz g sz g' i':=λ hm=>by unfold Made at hm |-;omega
 exact ⟨λ g' i' hm=>h.rep g' i' (e hm),λ g' i' x hm=>h.new g' i' x (e hm),λ g1 i1 g2 i2 x m1 m2=>h.sep g1 i1 g2 i2 x (e m1) (e m2)⟩
theorem Tv {br:Nat}:ptrs (fB B g j br) g (j+1)=ptrs B g j++[Ptt br]:=by
 unfold ptrs;rw [List.range_succ,List.map_append];congr 1
 ·refine List.map_congr_left λ i hi=>?_
  have:=List.mem_range.1 hi;rw [bz _ _ (λ e=>by omega)]
 ·simp [bL]
theorem Az.upd {gl:List Value} {br:Nat} (h:Az wk sz g B gl):Az wk sz g (fB B g j br) gl:=⟨h.1,λ g' hg'=>by
 obtain ⟨bs,ct,cur,h1,h2,h3,h4⟩:=h.2 g' hg';exact ⟨bs,ct,cur,h1,h2,h3,λ i hi=>by rw [bz _ _ (λ e=>by omega)];exact h4 i hi⟩⟩
theorem Az.ax {gl:List Value} (h:Az wk sz g B gl) (k:GB none wk vZ):Az vZ sz g B gl:=⟨h.1,λ g' hg'=>by
 obtain ⟨bs,ct,cur,h1,h2,h3,h4⟩:=h.2 g' hg';exact ⟨bs,ct,cur,h1,h2,k.get h3 nofun,h4⟩⟩
theorem Az.Gv {gl:List Value} (h:Az wk sz g B gl) {r:Option Nat} (k:GB r wk vZ) {t:TypeId} (ht:t≠123) (hr:∀ x,r=some x->∃ c,wk.heap[x]? = some (.cells c t)):Az vZ sz g B gl:=⟨h.1,λ g' hg'=>by
 obtain ⟨bs,ct,cur,h1,h2,h3,h4⟩:=h.2 g' hg';exact ⟨bs,ct,cur,h1,h2,k.get h3 λ e=>by
  obtain ⟨c,hc⟩:=hr bs e.symm;rw [h3] at hc;injection hc with hc;injection hc with _ hc;exact ht hc.symm,h4⟩⟩
end
section
variable {A:aT} (HA:bK A)
include HA
theorem aaz (w:World) (n f:Nat) (hn:1<=n/\n<=4) (hf:f<=2):af Tryz.prog 87 #[.int .i64 n,.int .i64 f] w (λ v w'=>∃ bc,v=.tuple #[Ptt bc,.int .i64 0]/\w.heap.size<=bc/\tK (dK w) bc (aL.new A n (2*f+1)) w'/\Kz w w'):=by
 have q1:decide ((n:Int)<1)=false:=by simp;omega
 have q2:decide ((n:Int) > 4)=false:=by simp;omega
 have q4:decide ((f:Int) > 2)=false:=by simp;omega
 refine aj ah mixed Tryz.func87 rfl rfl ?_;refine au (λ c=>?_) (λ c=>(by rw [q1] at c;cases c));refine au (λ c=>?_) (λ c=>(by rw [q2] at c;cases c));refine au (λ c=>(by rw [q4] at c;cases c)) (λ c=>?_);refine λ w1 bc m1 g1 l1=>?_
 refine ⟨λ m s wk=>∃ (g:Nat) (gv:Value) (gl:List Value) (B:Nat->Nat->Nat) (ad:Nat->Nat->fH),m=n - g/\g<=n/\s=[(0,.int .i64 n),(1,.int .i64 f),(6,Ptt bc),(27,.int .i64 n),(28,.int .i64 g)]/\wk.heap[bc]? = some (.cells #[gv,.slice none 0 0] 118)/\wk.ownsRow 0 159 1 gv g gl/\(∀ x,gv.ownBlock=some x->w.heap.size<=x)/\Az wk (2*f+1) g B gl/\NV A w wk n (2*f+1) g 0 B ad/\GB none w wk,⟨_,_,⟨0,.slice none 0 0,[],λ _ _=>0,λ _ _=>⟨0,0,0,0,0,0,.slice none 0 0,.slice none 0 0,.slice none 0 0,.slice none 0 0,.slice none 0 0,.slice none 0 0,.slice none 0 0⟩,rfl,Nat.zero_le _,rfl,m1,eX _ _ _,nofun,⟨rfl,λ g' hg'=>(by omega)⟩,⟨λ g' i' hm=>(by unfold Made at hm;omega),λ g' i' x hm=>(by unfold Made at hm;omega),λ g' i' _ _ x hm=>(by unfold Made at hm;omega)⟩,g1⟩,rfl,rfl,rfl,rfl,rfl,trivial⟩,?_⟩;rintro m s wg ⟨g,gv,gl,B,ad,rfl,hg,rfl,hc,hgo,hgn,wh,Gz,hgb⟩;refine au (λ c=>?_) (λ c=>?_)
 ·have c1:g<n:=by simp at c;omega
  refine ⟨by omega,by omega,?_⟩;refine ⟨λ m s wk=>∃ (j:Nat) (av:Value) (B:Nat->Nat->Nat) (ad:Nat->Nat->fH),m=2*f+1 - j/\j<=2*f+1/\s=[(0,.int .i64 n),(1,.int .i64 f),(6,Ptt bc),(7,.int .i64 g),(8,av),(27,.int .i64 n),(28,.int .i64 g),(33,.int .i64 (2*(f:Int)+1)),(34,.int .i64 j)]/\wk.ownsRow 0 123 1 av j (ptrs B g j)/\(∀ x,av.ownBlock=some x->wg.heap.size<=x)/\Az wk (2*f+1) g B gl/\NV A w wk n (2*f+1) g j B ad/\GB none wg wk,⟨_,_,⟨0,.slice none 0 0,B,ad,rfl,Nat.zero_le _,rfl,eX _ _ _,nofun,wh,Gz,GB.refl _ _⟩,rfl,rfl,rfl,rfl,rfl,rfl,rfl,rfl,rfl,trivial⟩,?_⟩;have ac2:=wh;clear Gz wh;rintro m s wk ⟨j,av,B,ad,rfl,hj,rfl,hao,Y2,wh,Gz,nI⟩;refine au (λ c=>?_) (λ c=>?_)
  ·have c2:j<2*f+1:=by simp at c;omega
   refine .inl ⟨by omega,.inl ⟨by omega,λ w2 b2 m2 g2 l2=>⟨_,_,_,m2,rfl,rfl,λ w3 m3 g3=>?_⟩⟩⟩;have g13:GB none wk w3:=g2.new g3 l2;refine ⟨_,_,m3,[.int .u8 g,.int .u8 j],rfl,rfl,by omega,by omega,_,YR HA g j n (2*f+1) c1 hn.2,?_⟩;rintro _ w4 ⟨br,rfl,hb,hW,k4⟩;have Tw:=Gz.ax g13;obtain ⟨jo,Tx,sj⟩:=Tw.more c2 ((hgb.trans nI).trans g13) hW;have gk4:GB none wk w4:=g13.trans sj;refine λ w5 b5 m5 g5 l5=>?_
   have U2:GB none wk w5:=gk4.trans g5;obtain ⟨aa,ac,rfl⟩:=ae hao;have Y3:=aA hao (w1:=w5) λ x hx=>by obtain ⟨cur,hc⟩:=aD hao hx;exact U2.block x (ag hc) nofun
   refine ⟨_,[Ptt br],Y3,⟨_,_,m5,rfl,rfl,rfl⟩,by omega,λ v' w6 Mf g6 n6=>?_⟩;refine ⟨by omega,_,_,⟨j+1,v',fB B g j br,jo,rfl,by omega,rfl,by rw [Tv];exact Mf,λ x hx=>(n6 x hx).elim (Y2 x) λ hl=>?_,?_,?_,GB.ownB (nI.trans U2) g6 Y2⟩,⟨rfl,rfl,rfl,rfl,rfl,rfl,rfl,rfl,rfl,trivial⟩,by omega⟩
   ·have:=(nI.trans U2).size;omega
   ·refine ⟨wh.1,λ g' hg'=>?_⟩
    obtain ⟨bs,ct,cur,h1,h2,h3,h4⟩:=(wh.ax U2).upd.2 g' hg';refine ⟨bs,ct,cur,h1,h2,g6.get h3 λ e=>?_,h4⟩;have e1:=Y2 bs e.symm;obtain ⟨bs',U3,cur',p1,p2,p3,p4⟩:=ac2.2 g' hg';rw [h1] at p1;injection p1 with p1;injection p1 with p1;injection p1 with p1;injection p1 with p1;have:=ag p3;omega
   ·exact (Tx.ax g5).Gv g6 (t:=123) (by decide) ⟨by decide,by decide,by decide⟩ λ x hx=>aD Y3 hx
  ·have c2:j=2*f+1:=by simp at c;omega
   subst c2;obtain ⟨ga,gc,rfl⟩:=ae hgo;have hck:=nI.get hc nofun;have hgo':=aA hgo (w1:=wk) λ x hx=>by obtain ⟨cur,hc⟩:=aD hgo hx;exact nI.block x (ag hc) nofun
   obtain ⟨bs,cap,cur,rfl,aR,htk,hsz,hcap⟩:=jD hao (by omega);refine ⟨_,_,hck,_,rfl,λ w2 b2 m2 g2 l2=>?_⟩;have JC:=aA hgo' (w1:=w2) λ x hx=>by obtain ⟨cur,hc⟩:=aD hgo' hx;exact g2.block x (ag hc) nofun
   refine ⟨_,[.slice (some ⟨bs,0,none⟩) (2*f+1) cap],JC,⟨_,_,m2,rfl,rfl,rfl⟩,by omega,λ Qi w3 ho3 g3 n3=>?_⟩;have hc3:w3.heap[bc]? = _:=g3.get (g2.get hck nofun) λ e=>by
    obtain ⟨c,hc'⟩:=aD JC e.symm;rw [g2.get hck nofun] at hc';injection hc' with hc';injection hc' with _ hc';revert hc';decide
   obtain ⟨na,nc,rfl⟩:=ae ho3;refine ⟨_,_,_,hc3,rfl,rfl,λ w4 m4 g4=>?_⟩;have Y4:w.heap.size<=bc:=l1;have G2:GB none w w2:=(hgb.trans nI).trans g2;have G3:GB none w w3:=GB.ownB G2 g3 hgn;have G4:GB none w w4:=G3.new g4 Y4;have ac3:=wh.ax g2;have ac4:=ac3.Gv g3 (t:=159) (by decide) λ x hx=>aD JC hx
   have ac5:=ac4.Gv g4 (t:=118) (by decide) λ x hx=>⟨_,by cases hx;exact hc3⟩
   have Tw:=(Gz.ax g2).Gv g3 (t:=159) (by decide) ⟨by decide,by decide,by decide⟩ λ x hx=>aD JC hx
   have Tx:=Tw.Gv g4 (t:=118) (by decide) ⟨by decide,by decide,by decide⟩ λ x hx=>⟨_,by cases hx;exact hc3⟩
   have ac6:w4.heap[bs]? = some (.cells cur 123):=g4.get (g3.get (g2.get aR nofun) λ e=>by
    obtain ⟨c,hc'⟩:=aD JC e.symm;rw [g2.get aR nofun] at hc';injection hc' with hc';injection hc' with _ hc';revert hc';decide) λ e=>by
    cases e
    rw [aR] at hck;injection hck with hck;injection hck with _ hck;revert hck;decide
   refine ⟨by omega,_,_,⟨g+1,_,gl++[.slice (some ⟨bs,0,none⟩) (2*f+1) cap],B,ad,rfl,by omega,rfl,m4,aA ho3 λ x hx=>?_,λ x hx=>(n3 x hx).elim (hgn x) λ hl=>?_,⟨?_,λ g' hg'=>?_⟩,Tx.next,G4⟩,⟨rfl,rfl,rfl,rfl,rfl,trivial⟩,by omega⟩
   ·obtain ⟨c,hc'⟩:=aD ho3 hx
    refine g4.block x (ag hc') λ e=>?_
    cases e
    rw [hc3] at hc';injection hc' with hc';injection hc' with _ hc';revert hc';decide
   ·have:=G2.size;omega
   ·rw [List.length_append,wh.1];rfl
   ·by_cases e:g'<g
    ·obtain ⟨bs',U3,cur',p1,p2,p3,p4⟩:=ac5.2 g' e
     exact ⟨bs',U3,cur',by rw [List.getElem?_append_left (by rw [wh.1];exact e)];exact p1,p2,p3,p4⟩
    ·have e:g'=g:=by omega
     subst e;refine ⟨bs,cap,cur,by rw [List.getElem?_append_right (by rw [wh.1];exact Nat.le_refl _),wh.1,Nat.sub_self];rfl,?_,ac6,λ i hi=>?_⟩
     ·exact hcap
     ·have:=congrArg (λ l=>l[i]?) htk
      simp only [Nat.mul_one] at this;rw [List.getElem?_take,if_pos hi] at this;rw [this];simp [ptrs,hi]
 ·have c1:g=n:=by simp at c;omega
  subst c1;obtain ⟨bg,cap,cur,rfl,aR,htk,hsz,hcap⟩:=jD hgo (by omega);refine ⟨bc,rfl,l1,⟨_,_,B,ad,⟨⟨hc,eX _ _ _,Nat.zero_le _,⟨bg,cap,cur,_,rfl,hcap,aR,by decide,λ g' hg'=>?_⟩,λ g' i' hg' hi'=>Gz.rep g' i' (.inl ⟨hg',hi'⟩),λ g1 i1 g2 i2 x p1 p2 p3 p4=>Gz.sep g1 i1 g2 i2 x (.inl ⟨p1,p2⟩) (.inl ⟨p3,p4⟩),nofun⟩,λ b o hb=>⟨hgb.get hb nofun,λ hC=>?_⟩,hgb.os,hgb.out⟩⟩,hgb.kz⟩
  ·obtain ⟨bs',U3,cur',p1,p2,p3,p4⟩:=wh.2 g' hg'
   refine ⟨bs',U3,cur',_,?_,p2,p3,by decide,p4⟩;have hg'':g'<g:=hg';refine Eq.trans ?_ p1;rw [<- htk,List.getElem?_take,if_pos (by omega)]
  ·have hl:=ag hb
   rcases hC with e | e | ⟨g',i',p1,p2,p3⟩
   ·have Y4:w.heap.size<=bc:=l1
    omega
   ·cases e
   ·have:=Gz.new g' i' b (.inl ⟨p1,p2⟩) p3;omega
end
end
end Go.Proofs.YtignemioillaiabGreat
