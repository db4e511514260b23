/- What is right (4): votes, messages. -/
import Derived.Test.YtignemioillaiaaGreatG30
namespace Go.Proofs.YtignemioillaiaaGreat
set_option maxHeartbeats 8000000
set_option maxRecDepth 100000
section
open Go Go.Conc
def mZ (l:List MV):Bool:=jI (λ v:MV=>kQ v.c) (λ y x=>decide (y.slot<x.slot)) l
def AJ (p:az):Bool:=p.c == 0 && (p.s == 0 && (p.key == 0 && (p.k == 0 && (p.found == false && (p.v == 0 && p.g == 0)))))
def AL (b:bF):Bool:=(b.n:Int) == 0 && (b.id:Int) == 0
def ng (m:MM):Bool:=oo m.q && (AJ m.p && (AL m.b && ((m.s:Int) == 0 && (m.c.kind == 0 && (xK m.c && ((m.vs.length:Int) == 0 && (sH m.r && (m.peer == 0 && m.seq == 0))))))))
def eX (m:MM):Bool:=if m.kind=1 then kK m.q && ng { m with q:=qi } else if m.kind=2 then tQ m.p && ng { m with p:=sj } else if m.kind=3 then ng { m with b:=⟨0,0⟩ } else if m.kind=5 then ng { m with b:=⟨0,0⟩ } else if m.kind=4 then mZ m.vs && ng { m with b:=⟨0,0⟩,vs:=[] } else if m.kind=6 then kQ m.c && ng { m with b:=⟨0,0⟩,s:=0,c:=ky } else if m.kind=7 then ng { m with b:=⟨0,0⟩,s:=0 } else if m.kind=8 then kQ m.c && ng { m with s:=0,c:=ky } else if m.kind=9 then oh m.r && ng { m with r:=pG } else if m.kind=10 then decide (m.peer<4) && ng { m with peer:=0,seq:=0 } else false
theorem Mk {l:List MV} {ps:List (Value×Value)} {k:Nat} {x:MV} {p:Value×Value} (_hl:ps.length=l.length) (hx:l[k]? = some x) (hp:ps[k]? = some p) {cs:List Value} {off:Nat} (hcut:aL cs off (l.length*20)=(List.zipWith (λ x p=>jC x p.1 p.2) l ps).flatten):aL cs (off+k*20) 20=jC x p.1 p.2:=by
 have hk:=(List.getElem?_eq_some_iff.1 hx).1;have h0:(l.zip ps)[k]? = some (x,p):=by rw [List.getElem?_zip_eq_some];exact ⟨hx,hp⟩
 have h1:=jG (f:=λ x:MV×Value×Value=>jC x.1 x.2.1 x.2.2) (size:=20) (λ _=>rfl) (l.zip ps) k (x,p) h0;rw [List.flatMap_def,<- JC,<- hcut,uu _ _ _ _ _ (by omega)] at h1;exact h1
section
variable {w:World}
theorem TM {l:List MV} {v:Value} (hv:bW w v l):ag Tryz.prog 211 #[v] w (λ v w'=>v=.bool (mZ l)/\GB none w w'):=by
 obtain ⟨ps,hp,⟨a,c,rfl,hcap,hlen,hv⟩,hr⟩:=hv;refine au ah mixed Tryz.func211 rfl rfl ?_;refine aj (λ d=>?_) (λ d=>?_)
 ·exact ⟨congrArg Value.bool (yJ (by simp at d;omega)).symm,GB.refl _ _⟩
 have yD:l.length<=255:=by simp at d;omega
 refine ⟨λ m s wk=>∃ k:Nat,m=l.length - k/\k<=l.length/\s=[(0,.slice a l.length c),(8,.slice a l.length c),(9,.int .i64 l.length),(10,.int .i64 k)]/\GB none w wk/\(List.range k).all (wz (λ v:MV=>kQ v.c) (λ y x=>decide (y.slot<x.slot)) l)=true,⟨_,_,⟨0,rfl,Nat.zero_le _,rfl,GB.refl _ _,rfl⟩,rfl,rfl,rfl,rfl,trivial⟩,?_⟩;rintro m s wk ⟨k,rfl,hk,rfl,gk,hall⟩;refine aj (λ d=>?_) (λ d=>?_)
 ·have d1:k<l.length:=by have:=of_decide_eq_true d;omega
  obtain ⟨x,hx⟩:∃ x,l[k]? = some x:=⟨l[k],by simp [d1]⟩;obtain ⟨⟨p1,p2⟩,hpk⟩:∃ p,ps[k]? = some p:=⟨ps[k]'(by omega),by simp [show k<ps.length by omega]⟩;have hrx:=hr k x _ hx hpk;obtain ⟨x1,x2,x3,x4,x5,x6,q1,q2⟩:=hrx.sl;dsimp only at q1 q2 hrx;subst q1 q2;rcases hv with ⟨_,h0⟩ | ⟨b,off,cs,rfl,hb,hcut⟩
  ·omega
  have hb1:=gk.get hb nofun;refine ⟨⟨by omega,by omega⟩,_,_,hb1,jC x (.slice x1 x2 x3) (.slice x4 x5 x6),by show aL cs.toList (off+(k:Int).toNat*20) 20=_;rw [Int.toNat_natCast];exact Mk hp hx hpk hcut,rfl,λ w2 b2 m2 g2 l2=>⟨_,_,_,m2,rfl,rfl,λ w3 m3 g3=>?_⟩⟩;have G:=gk.trans (g2.new g3 l2);have hb3:=G.get hb nofun;have last:(∀ j y,k=j+1->l[j]? = some y->decide (y.slot<x.slot)=true)->∃ Post,ag Tryz.prog 212 #[.agg (dx x.c (.slice x1 x2 x3) (.slice x4 x5 x6)).toArray] w3 Post/\∀ v w4,Post v w4->∃ z,v=.bool z/\GB none w3 w4/\(z=false->mZ l=false)/\(z=true->(List.range (k+1)).all (wz (λ v:MV=>kQ v.c) (λ y x=>decide (y.slot<x.slot)) l)=true):=λ hlt=>⟨_,yL (c:=x.c) (hrx.kz G.kz),by
   rintro _ w4 ⟨rfl,g4⟩;exact ⟨_,rfl,g4,λ hz=>xJ hx hz,λ hz=>uJ hall (vg hx hz hlt)⟩⟩
  refine ⟨by kernel_rfl,aj (λ e=>?_) (λ e=>?_)⟩
  ·have e1:0<k:=by simp at e;omega
   obtain ⟨j,rfl⟩:∃ j,k=j+1:=⟨k - 1,by omega⟩;obtain ⟨y,hy⟩:∃ y,l[j]? = some y:=⟨l[j]'(by omega),by simp [show j<l.length by omega]⟩;obtain ⟨p',hpj⟩:∃ p,ps[j]? = some p:=⟨ps[j]'(by omega),by simp [show j<ps.length by omega]⟩;have ej:(((j+1:Nat):Int) - 1).toNat=j:=by omega
   refine ⟨_,_,m3,_,rfl,⟨by omega,by omega⟩,⟨by omega,by omega⟩,_,_,hb3,.int .u32 y.slot,by show cs.toList[off+(((j+1:Nat):Int) - 1).toNat*20+0]? = _;rw [ej];exact iD (Mk hp hy hpj hcut) rfl (by decide),?_⟩;refine aj (λ q=>?_) (λ q=>?_)
   ·exact ⟨congrArg Value.bool (Dj hx hy (by simp at q;simp;omega)).symm,G⟩
   ·obtain ⟨Post,h1,h2⟩:=last λ i y' ei hy'=>by cases ei;rw [hy] at hy';cases hy';simp at q;simp;omega
    refine ⟨_,_,m3,dx x.c (.slice x1 x2 x3) (.slice x4 x5 x6),rfl,rfl,_,h1,λ v w4 hv=>?_⟩;obtain ⟨z,rfl,g4,z1,z2⟩:=h2 v w4 hv;cases z
    ·exact ⟨congrArg Value.bool (z1 rfl).symm,G.trans g4⟩
    ·exact ⟨⟨by omega,by omega⟩,_,_,⟨j+2,rfl,by omega,rfl,G.trans g4,z2 rfl⟩,⟨rfl,rfl,rfl,rfl,trivial⟩,by omega⟩
  ·have e1:k=0:=by simp at e;omega
   subst e1;obtain ⟨Post,h1,h2⟩:=last λ j y e _=>absurd e (Nat.succ_ne_zero j).symm
   refine ⟨_,_,m3,dx x.c (.slice x1 x2 x3) (.slice x4 x5 x6),rfl,rfl,_,h1,λ v w4 hv=>?_⟩;obtain ⟨z,rfl,g4,z1,z2⟩:=h2 v w4 hv;cases z
   ·exact ⟨congrArg Value.bool (z1 rfl).symm,G.trans g4⟩
   ·exact ⟨⟨by omega,by omega⟩,_,_,⟨1,rfl,by omega,rfl,G.trans g4,z2 rfl⟩,⟨rfl,rfl,rfl,rfl,trivial⟩,by omega⟩
 ·have d1:k=l.length:=by have:=of_decide_eq_false d;omega
  subst d1;exact ⟨congrArg Value.bool (by unfold mZ jI;rw [hall];simp [yD]),gk⟩
variable {m:MM} {rv dv vv rv' eG:Value}
theorem gI (hc:aM w m.c.r rv dv) (hv:bW w vv m.vs) (hr:aM w m.r rv' eG):ag Tryz.prog 213 #[.agg (dP m rv dv vv rv' eG).toArray] w (λ v w'=>v=.bool (ng m)/\GB none w w'):=by
 obtain ⟨_,_,_,_,_,_,rfl,rfl⟩:=hc.sl;obtain ⟨_,_,_,_,_,_,rfl,rfl⟩:=hr.sl;obtain ⟨_,_,rfl⟩:=hv.sl;refine au ah mixed Tryz.func213 rfl rfl ?_;refine λ w1 b1 m1 g1 l1=>?_
 have hc1:=hc.kz g1.kz;have hr1:=hr.kz g1.kz;refine ⟨_,_,m1,m.q.cells,rfl,rfl,?_⟩;refine aj (λ c0=>?_) (λ c0=>?_)
 ·refine ⟨_,_,m1,m.p.cells,rfl,rfl,?_⟩
  refine aj (λ c1=>?_) (λ c1=>?_)
  ·refine ⟨_,_,m1,[.int .u32 m.b.n,.int .u8 m.b.id],rfl,rfl,?_⟩
   refine aj (λ c2=>?_) (λ c2=>?_)
   ·refine ⟨_,_,m1,_,rfl,?_⟩
    refine aj (λ c3=>?_) (λ c3=>?_)
    ·refine ⟨_,_,m1,_,rfl,?_⟩
     refine aj (λ c4=>?_) (λ c4=>?_)
     ·refine ⟨_,_,m1,dx m.c _ _,rfl,rfl,_,xL (c:=m.c) hc1,?_⟩
      rintro _ w2 ⟨rfl,g2⟩;have m2:=g2.get m1 nofun;have g12:=g1.trans g2;refine aj (λ c5=>?_) (λ c5=>?_)
      ·refine ⟨_,_,m2,_,rfl,?_⟩
       refine aj (λ c6=>?_) (λ c6=>?_)
       ·refine ⟨_,_,m2,dU m.r _ _,rfl,rfl,_,EG (r:=m.r) (hr1.kz g2.kz),?_⟩
        rintro _ w3 ⟨rfl,g3⟩;have m3:=g3.get m2 nofun;have g13:=g12.trans g3;refine aj (λ c7=>?_) (λ c7=>?_)
        ·refine ⟨_,_,m3,_,rfl,?_⟩
         refine aj (λ c8=>?_) (λ c8=>?_)
         ·refine ⟨_,_,m3,_,rfl,?_⟩
          exact ⟨congrArg Value.bool (by grind [ng,oo,AJ,AL]),g13⟩
         ·exact ⟨congrArg Value.bool (by grind [ng,oo,AJ,AL]),g13⟩
        ·exact ⟨congrArg Value.bool (by grind [ng,oo,AJ,AL]),g13⟩
       ·exact ⟨congrArg Value.bool (by grind [ng,oo,AJ,AL]),g12⟩
      ·exact ⟨congrArg Value.bool (by grind [ng,oo,AJ,AL]),g12⟩
     ·exact ⟨congrArg Value.bool (by grind [ng,oo,AJ,AL]),g1⟩
    ·exact ⟨congrArg Value.bool (by grind [ng,oo,AJ,AL]),g1⟩
   ·exact ⟨congrArg Value.bool (by grind [ng,oo,AJ,AL]),g1⟩
  ·exact ⟨congrArg Value.bool (by grind [ng,oo,AJ,AL]),g1⟩
 ·exact ⟨congrArg Value.bool (by grind [ng,oo,AJ,AL]),g1⟩
end
def fM (a b:Int):Int:=if a<b then -1 else if b<a then 1 else 0
def Ml (a b:Int):Int:=if a=0 then b else a
def je (a b:az):Int:=Ml (fM a.key b.key) (fM a.c b.c)
def dR {α:Type} (f:α->Int) (l:List α):Nat:=l.countP (λ x=>decide (f x<0))
def ni {α:Type} (f:α->Int) (l:List α):Bool:=match l[dR f l]? with | some x=>f x == 0 | none=>false
theorem uw {a b:Int}:fM a b<0↔a<b:=by
 unfold fM;split
 ·simp;omega
 ·split <;> omega
theorem lZ {a b:Int}:fM a b=0↔a=b:=by
 unfold fM;split
 ·simp;omega
 ·split <;> omega
theorem BD {a b:az}:je a b<0↔a.key<b.key\/a.key=b.key/\a.c<b.c:=by
 unfold je Ml;split
 ·rename_i h
  rw [lZ] at h;rw [uw];omega
 ·rename_i h
  rw [lZ] at h;rw [uw];omega
theorem Xf {a b:az}:je a b=0↔a.key=b.key/\a.c=b.c:=by
 unfold je Ml;split
 ·rename_i h
  rw [lZ] at h;rw [lZ];omega
 ·rename_i h
  rw [lZ] at h;rw [lZ];omega
def AO {α:Type} (f:α->Int) (l:List α):Prop:=∀ (i j:Nat) (x y:α),i<=j->l[i]? = some x->l[j]? = some y->f y<0->f x<0
def gz (T:List Row):Prop:=T.Pairwise (λ a b=>a.key<b.key)
def iM (D:List az):Prop:=D.Pairwise (λ a b=>a.key<b.key\/a.key=b.key/\a.c<b.c)
theorem BF {α:Type} {R:α->α->Prop} {l:List α} (h:l.Pairwise R) {i j:Nat} {x y:α} (hij:i<j) (hx:l[i]? = some x) (hy:l[j]? = some y):R x y:=by
 obtain ⟨hi,rfl⟩:=List.getElem?_eq_some_iff.1 hx;obtain ⟨hj,rfl⟩:=List.getElem?_eq_some_iff.1 hy;exact List.pairwise_iff_getElem.1 h i j hi hj hij
theorem Vl {T:List Row} (h:gz T) (key:Int):AO (λ x:Row=>fM x.key key) T:=by
 intro i j x y hij hx hy hl;rcases Nat.lt_or_eq_of_le hij with h1 | rfl
 ·have:=BF h h1 hx hy
  rw [uw] at hl |-;omega
 ·rw [hx] at hy;cases hy;exact hl
theorem Vm {D:List az} (h:iM D) (q:az):AO (λ x:az=>je x q) D:=by
 intro i j x y hij hx hy hl;rcases Nat.lt_or_eq_of_le hij with h1 | rfl
 ·have:=BF h h1 hx hy
  rw [BD] at hl |-;omega
 ·rw [hx] at hy;cases hy;exact hl
theorem BG {α:Type} (f:α->Int) (l:List α):dR f l<=l.length:=List.countP_le_length
theorem sJ {α:Type} (f:α->Int):∀ (l:List α),AO f l->(∀ (t:Nat) (x:α),t<dR f l->l[t]? = some x->f x<0)/\(∀ (t:Nat) (x:α),dR f l<=t->l[t]? = some x->0<=f x)
 | [],_=>⟨λ t x _ h=>by simp at h,λ t x _ h=>by simp at h⟩
 | a::r,h=>by
  have hr:AO f r:=λ i j x y hij hx hy=>h (i+1) (j+1) x y (by omega) (by simpa using hx) (by simpa using hy)
  obtain ⟨h1,h2⟩:=sJ f r hr;by_cases ha:f a<0
  ·have hp:dR f (a::r)=dR f r+1:=by unfold dR;rw [List.countP_cons_of_pos (by simp [ha])]
   rw [hp];refine ⟨λ t x ht hx=>?_,λ t x ht hx=>?_⟩
   ·cases t with
    | zero=>simp at hx;subst hx;exact ha
    | succ t=>exact h1 t x (by omega) (by simpa using hx)
   ·cases t with
    | zero=>omega
    | succ t=>exact h2 t x (by omega) (by simpa using hx)
  ·have hz:dR f r=0:=by
    unfold dR;rw [List.countP_eq_zero];intro x hx;obtain ⟨t,ht,rfl⟩:=List.getElem_of_mem hx;intro hc;exact ha (h 0 (t+1) a r[t] (Nat.zero_le _) rfl (by simp [ht]) (by simpa using hc))
   have hp:dR f (a::r)=0:=by
    unfold dR at hz |-;rw [List.countP_cons_of_neg (by simp [ha]),hz]
   rw [hp];refine ⟨λ t x ht _=>by omega,λ t x ht hx=>?_⟩;cases t with
   | zero=>simp at hx;subst hx;exact Int.not_lt.1 ha
   | succ t=>exact h2 t x (by omega) (by simpa using hx)
def j6 {α:Type} (l:List α) (i:Nat) (x:α):List α:=l.take i++(x::l.drop i)
abbrev sK (T:List Row) (key:Int):Nat:=dR (λ x:Row=>fM x.key key) T
abbrev kL (T:List Row) (key:Int):Bool:=ni (λ x:Row=>fM x.key key) T
abbrev zt (D:List az) (q:az):Nat:=dR (λ x:az=>je x q) D
abbrev JK (D:List az) (q:az):Bool:=ni (λ x:az=>je x q) D
def rf (T:List Row) (key:Int):Int:=if kL T key then ((T[sK T key]?).map Row.val).getD 0 else 0
def rq (T:List Row) (key:Int):Int:=if kL T key then 2 else if 8<=T.length then 5 else 2
def nS (T:List Row) (key v:Int):List Row:=if kL T key then T.set (sK T key) ⟨key,v⟩ else if 8<=T.length then T else j6 T (sK T key) ⟨key,v⟩
def wT (T:List Row) (key:Int):List Row:=if kL T key then T.eraseIdx (sK T key) else T
def jf (D:List az) (q:az):List az:=if JK D q then D.set (zt D q) q else j6 D (zt D q) q
def Co (lo hi:Int) (p:Pc):Bool:=decide (lo<p.f) && decide (p.f<=hi)
def JL (m:List Pc) (g lo hi:Int):Int:=if own 0 m lo≠g then own 0 m lo else ((m.find? (Co lo hi)).map Pc.g).getD 0
def Om (m:List Pc) (g lo hi:Int):Bool:=if own 0 m lo≠g then true else (m.find? (Co lo hi)).isSome
def sB {α:Type} (f:α->Int) (lo:Int) (l:List α):List α:=l.filter λ x=>decide (f x<lo)
def sA {α:Type} (f:α->Int) (lo hi:Int) (l:List α):List α:=l.filter λ x=>!decide (f x<lo) && decide (hi<f x)
def sW {α:Type} (f:α->Int) (lo hi:Int) (l:List α):List α:=l.filter λ x=>!decide (f x<lo) && !decide (hi<f x)
def yM (T:List Row) (lo hi:Int):List Row:=sB (λ x:Row=>x.key) lo T++sA (λ x:Row=>x.key) lo hi T
def yN (D:List az) (lo hi:Int):List az:=sB (λ x:az=>x.key) lo D++sA (λ x:az=>x.key) lo hi D
def AP (g j next lo hi:Int) (T:List Row) (D:List az):Rg:=⟨g,j,next,lo,hi,sW (λ x:Row=>x.key) lo hi T,sW (λ x:az=>x.key) lo hi D⟩
def dV (O:List (Int×List Rg)) (k:Int):Int×List Rg:=(O[k.toNat]?).getD (0,[])
def gN (s:St) (q:bQ):Bool:=!(q.to == s.g) && decide (q.to<s.n) && decide ((dV s.O q.to).2.length<4) && decide ((iJ s.M q.key q.hi q.to).length<=8)
def lh (q:bQ):az:=⟨q.c,q.s,q.key,0,false,0,0⟩
def kM (s:St) (q:bQ):az :=
 if q.k=1 then ⟨q.c,q.s,q.key,1,kL s.T q.key,rf s.T q.key,0⟩
 else if q.k=2 then ⟨q.c,q.s,q.key,rq s.T q.key,false,0,0⟩
 else if q.k=3 then ⟨q.c,q.s,q.key,2,false,0,0⟩
 else if gN s q then ⟨q.c,q.s,q.key,2,false,0,0⟩ else ⟨q.c,q.s,q.key,5,false,0,0⟩
def Zt (s:St) (q:bQ) (D1:List az):St:={ s with T:=yM s.T q.key q.hi,M:=iJ s.M q.key q.hi q.to,D:=yN D1 q.key q.hi,O:=s.O.set q.to.toNat (IntKind.u32.wrap ((dV s.O q.to).1+1),(dV s.O q.to).2++[AP s.g q.to (dV s.O q.to).1 q.key q.hi s.T D1]) }
def sN (s:St) (q:bQ):St :=
 if q.k=2 then { s with T:=nS s.T q.key q.v,D:=jf s.D (kM s q) }
 else if q.k=3 then { s with T:=wT s.T q.key,D:=jf s.D (kM s q) }
 else if q.k=4/\gN s q=true then Zt s q (jf s.D (kM s q))
 else { s with D:=jf s.D (kM s q) }
def BH (g n:Int) (I:List Int) (r:Rg):Bool:=r.dst == g && !(r.src == g) && decide (r.src<n) && r.seq == IntKind.u32.wrap (((I[r.src.toNat]?).getD 0)+1)
def Dm (s:St) (r:Rg):St :=
 if oh r=true/\BH s.g s.n s.I r=true/\(iJ s.M r.lo r.hi s.g).length<=1000 then
  { s with T:=sB (λ x:Row=>x.key) r.lo s.T++(r.rows++sA (λ x:Row=>x.key) r.lo r.hi s.T),M:=iJ s.M r.lo r.hi s.g,D:=sB (λ x:az=>x.key) r.lo s.D++(r.aZ++sA (λ x:az=>x.key) r.lo r.hi s.D),I:=s.I.set r.src.toNat r.seq }
 else s
def keepR (sq:Int) (q:List Rg):List Rg:=q.filter λ r=>!decide (r.seq<=sq)
def Dn (s:St) (peer sq:Int):St:=if peer<s.n then { s with O:=s.O.set peer.toNat ((dV s.O peer).1,keepR sq (dV s.O peer).2) } else s
def Mm (q:bQ):Int:=if q.key<q.hi then q.hi else q.key
def yO (s:St) (q:bQ):St×az :=
 if kK q=false then (s,sj)
 else if Om s.M s.g q.key (Mm q)=true then (s,⟨q.c,q.s,q.key,3,false,0,JL s.M s.g q.key (Mm q)⟩)
 else if JK s.D (lh q)=true then
  match s.D[zt s.D (lh q)]? with
  | some x=>if x.s<q.s then (sN s q,kM s q) else if x.s=q.s then (s,x) else (s,⟨q.c,q.s,q.key,4,false,0,0⟩)
  | none=>(s,sj)
 else (sN s q,kM s q)
def tu (s:St) (c:MC):St×az :=
 if c.kind=1 then yO s c.q else if c.kind=2 then (Dm s c.r,sj) else if c.kind=3 then (Dn s c.peer c.seq,sj) else (s,sj)
def JM (g n:Nat):St:=⟨g,n,[],[⟨0,0⟩],[],List.replicate n (1,[]),List.replicate n 0⟩
theorem Wk.snap {w w':World} {br:Nat} {R:MR} (h:Wk (fu w) br R w'):∃ a,RI w' br R a/\(∀ x,Own br a x->w.heap.size<=x)/\GB none w w':=by
 obtain ⟨a,h⟩:=h;have kp:∀ x,x<w.heap.size->w'.heap[x]? = w.heap[x]?/\¬ Own br a x:=λ x hx=>by
  obtain ⟨o,ho⟩:∃ o,w.heap[x]? = some o:=⟨w.heap[x],by simp [hx]⟩;obtain ⟨h1,h2⟩:=h.pr x o ho;exact ⟨h1.trans ho.symm,h2⟩
 refine ⟨a,h.ri,λ x hx=>?_,h.os,h.out,?_,λ x hx _=>(kp x hx).1⟩
 ·by_cases hl:x<w.heap.size
  ·exact ((kp x hl).2 hx).elim
  ·omega
 ·by_cases h0:w.heap.size=0
  ·omega
  ·have h1:=(kp (w.heap.size - 1) (by omega)).1
   obtain ⟨o,ho⟩:∃ o,w.heap[w.heap.size - 1]? = some o:=⟨w.heap[w.heap.size - 1]'(by omega),by simp [show w.heap.size - 1<w.heap.size by omega]⟩;rw [ho] at h1;have:=ae h1;omega
theorem jE {w:World} {e:TypeId} {size n:Nat} {v:Value} {xs:List Value} (h:w.ownsRow 0 e size v n xs) (_hn:0<n):∃ g cap cur,v=.slice (some ⟨g,0,none⟩) n cap/\w.heap[g]? = some (.cells cur e)/\cur.toList.take (n*size)=xs/\n*size<=cur.size/\n<=cap:=by
 rcases h.2 with ⟨_,h1⟩ | ⟨g,cap,cur,h1,h0,h2,h3,h4,h5,h6⟩
 ·omega
 ·refine ⟨g,cap,cur,h1,h2,h6,?_,h3⟩
  have:=h.1;have h7:=congrArg List.length h6;rw [List.length_take,Array.length_toList] at h7;omega
def Made (sz g j g' i':Nat):Prop:=(g'<g/\i'<sz)\/(g'=g/\i'<j)
structure NV (A:aT) (w wk:World) (n sz g j:Nat) (B:Nat->Nat->Nat) (ad:Nat->Nat->fK):Prop where
 rep:∀ g' i',Made sz g j g' i'->RI wk (B g' i') (Di A g' i' n sz) (ad g' i')
 new:∀ g' i' x,Made sz g j g' i'->Own (B g' i') (ad g' i') x->w.heap.size<=x
 sep:∀ g1 i1 g2 i2 x,Made sz g j g1 i1->Made sz g j g2 i2->Own (B g1 i1) (ad g1 i1) x->Own (B g2 i2) (ad g2 i2) x->g1=g2/\i1=i2
def ptrs (B:Nat->Nat->Nat) (g j:Nat):List Value:=(List.range j).map λ i=>.pointer (some ⟨B g i,0,none⟩)
def AQ (wk:World) (sz g:Nat) (B:Nat->Nat->Nat) (gl:List Value):Prop:=gl.length=g/\∀ g',g'<g->∃ bs ct cur,gl[g']? = some (.slice (some ⟨bs,0,none⟩) sz ct)/\sz<=ct/\wk.heap[bs]? = some (.cells cur 133)/\∀ i,i<sz->cur.toList[i]? = some (.pointer (some ⟨B g' i,0,none⟩))
section
variable {A:aT} {w wk wB:World} {n sz g j:Nat} {B:Nat->Nat->Nat} {ad:Nat->Nat->fK}
theorem NV.keep (h:NV A w wk n sz g j B ad) (k:Kz wk wB) (hb:∀ g' i' x,Made sz g j g' i'->Own (B g' i') (ad g' i') x->wB.heap[x]? = wk.heap[x]?):NV A w wB n sz g j B ad:=⟨λ g' i' hm=>(h.rep g' i' hm).keep k λ x hx=>hb g' i' x hm hx,h.new,h.sep⟩
theorem NV.ax (h:NV A w wk n sz g j B ad) (k:GB none wk wB):NV A w wB n sz g j B ad:=h.keep k.kz λ g' i' x hm hx=>k.block x ((h.rep g' i' hm).lt hx) nofun
theorem NV.GK (h:NV A w wk n sz g j B ad) {r:Option Nat} (k:GB r wk wB) {t:TypeId} (ht:t ∉ Jo) (hm:t≠152/\t≠54/\t≠139) (hr:∀ x,r=some x->∃ c,wk.heap[x]? = some (.cells c t)):NV A w wB n sz g j B ad:=by
 refine h.keep (λ t' ht' b c hb=>k.get hb λ e=>?_) λ g' i' x hM hx=>k.block x ((h.rep g' i' hM).lt hx) λ e=>?_
 ·obtain ⟨c',hc⟩:=hr b e.symm
  rw [hb] at hc;injection hc with hc;injection hc with _ hc;subst hc;exact ht ht'
 ·obtain ⟨c',hc⟩:=hr x e.symm
  rcases (h.rep g' i' hM).AB hx hc with q | q | q
  ·exact hm.1 q
  ·exact hm.2.1 q
  ·exact hm.2.2 q
theorem NV.more (h:NV A w wk n sz g j B ad) (hj:j<sz) (gw:GB none w wk) {br:Nat} (hW:Wk (fu wk) br (Di A g j n sz) wB):∃ jw,NV A w wB n sz g (j+1) (fE B g j br) jw/\GB none wk wB:=by
 obtain ⟨a,hR,hn,k⟩:=hW.snap;have h1:=h.ax k;have ne:∀ {g' i'},Made sz g j g' i'->¬ (g'=g/\i'=j):=λ hm e=>by unfold Made at hm;omega
 have cs:∀ {g' i'},Made sz g (j+1) g' i'->Made sz g j g' i'\/(g'=g/\i'=j):=λ {g' i'} hm=>by unfold Made at hm |-;omega
 refine ⟨fE ad g j a,⟨λ g' i' hm=>?_,λ g' i' x hm hx=>?_,λ g1 i1 g2 i2 x m1 m2 o1 o2=>?_⟩,k⟩
 ·rcases cs hm with q | ⟨rfl,rfl⟩
  ·rw [bz _ _ (ne q),bz _ _ (ne q)];exact h1.rep g' i' q
  ·rw [bN,bN];exact hR
 ·rcases cs hm with q | ⟨rfl,rfl⟩
  ·rw [bz _ _ (ne q),bz _ _ (ne q)] at hx;exact h.new g' i' x q hx
  ·rw [bN,bN] at hx;have:=hn x hx;have:=gw.size;omega
 ·rcases cs m1 with q1 | ⟨rfl,rfl⟩ <;> rcases cs m2 with q2 | ⟨e2,e2'⟩
  ·rw [bz _ _ (ne q1),bz _ _ (ne q1)] at o1
   rw [bz _ _ (ne q2),bz _ _ (ne q2)] at o2;exact h.sep _ _ _ _ x q1 q2 o1 o2
  ·subst e2;subst e2'
   rw [bz _ _ (ne q1),bz _ _ (ne q1)] at o1;rw [bN,bN] at o2;have:=hn x o2;have:=(h.rep _ _ q1).lt o1;omega
  ·rw [bN,bN] at o1
   rw [bz _ _ (ne q2),bz _ _ (ne q2)] at o2;have:=hn x o1;have:=(h.rep _ _ q2).lt o2;omega
  ·exact ⟨e2.symm,e2'.symm⟩
theorem NV.next (h:NV A w wk n sz g sz B ad):NV A w wk n sz (g+1) 0 B ad:=by
 have e:∀ {g' i'},Made sz (g+1) 0 g' i'->Made sz g sz g' i':=λ hm=>by unfold Made at hm |-;omega
 exact ⟨λ g' i' hm=>h.rep g' i' (e hm),λ g' i' x hm=>h.new g' i' x (e hm),λ g1 i1 g2 i2 x m1 m2=>h.sep g1 i1 g2 i2 x (e m1) (e m2)⟩
theorem TN {br:Nat}:ptrs (fE B g j br) g (j+1)=ptrs B g j++[Ptt br]:=by
 unfold ptrs;rw [List.range_succ,List.map_append];congr 1
 ·refine List.map_congr_left λ i hi=>?_
  have:=List.mem_range.1 hi;rw [bz _ _ (λ e=>by omega)]
 ·simp [bN]
theorem AQ.upd {gl:List Value} {br:Nat} (h:AQ wk sz g B gl):AQ wk sz g (fE B g j br) gl:=⟨h.1,λ g' hg'=>by
 obtain ⟨bs,ct,cur,h1,h2,h3,h4⟩:=h.2 g' hg';exact ⟨bs,ct,cur,h1,h2,h3,λ i hi=>by rw [bz _ _ (λ e=>by omega)];exact h4 i hi⟩⟩
theorem AQ.ax {gl:List Value} (h:AQ wk sz g B gl) (k:GB none wk wB):AQ wB sz g B gl:=⟨h.1,λ g' hg'=>by
 obtain ⟨bs,ct,cur,h1,h2,h3,h4⟩:=h.2 g' hg';exact ⟨bs,ct,cur,h1,h2,k.get h3 nofun,h4⟩⟩
theorem AQ.GK {gl:List Value} (h:AQ wk sz g B gl) {r:Option Nat} (k:GB r wk wB) {t:TypeId} (ht:t≠133) (hr:∀ x,r=some x->∃ c,wk.heap[x]? = some (.cells c t)):AQ wB sz g B gl:=⟨h.1,λ g' hg'=>by
 obtain ⟨bs,ct,cur,h1,h2,h3,h4⟩:=h.2 g' hg';exact ⟨bs,ct,cur,h1,h2,k.get h3 λ e=>by
  obtain ⟨c,hc⟩:=hr bs e.symm;rw [h3] at hc;injection hc with hc;injection hc with _ hc;exact ht hc.symm,h4⟩⟩
end
section
variable {A:aT} (HA:bK A)
include HA
theorem aa2 (w:World) (n f:Nat) (hn:1<=n/\n<=4) (hf:f<=2):ag Tryz.prog 18 #[.int .i64 n,.int .i64 f] w (λ v w'=>∃ bc,v=.tuple #[Ptt bc,.int .i64 0]/\w.heap.size<=bc/\sG (fu w) bc (aN.new A n (2*f+1)) w'/\Kz w w'):=by
 have q1:decide ((n:Int)<1)=false:=by simp;omega
 have q2:decide ((n:Int) > 4)=false:=by simp;omega
 have q4:decide ((f:Int) > 2)=false:=by simp;omega
 refine au ah mixed Tryz.func18 rfl rfl ?_;refine aj (λ c=>?_) (λ c=>(by rw [q1] at c;cases c));refine aj (λ c=>?_) (λ c=>(by rw [q2] at c;cases c));refine aj (λ c=>(by rw [q4] at c;cases c)) (λ c=>?_);refine λ w1 bc m1 g1 l1=>?_
 refine ⟨λ m s wk=>∃ (g:Nat) (gv:Value) (gl:List Value) (B:Nat->Nat->Nat) (ad:Nat->Nat->fK),m=n - g/\g<=n/\s=[(0,.int .i64 n),(1,.int .i64 f),(6,Ptt bc),(27,.int .i64 n),(28,.int .i64 g)]/\wk.heap[bc]? = some (.cells #[gv,.slice none 0 0] 131)/\wk.ownsRow 0 132 1 gv g gl/\(∀ x,gv.ownBlock=some x->w.heap.size<=x)/\AQ wk (2*f+1) g B gl/\NV A w wk n (2*f+1) g 0 B ad/\GB none w wk,⟨_,_,⟨0,.slice none 0 0,[],λ _ _=>0,λ _ _=>⟨0,0,0,0,0,0,.slice none 0 0,.slice none 0 0,.slice none 0 0,.slice none 0 0,.slice none 0 0,.slice none 0 0,.slice none 0 0⟩,rfl,Nat.zero_le _,rfl,m1,eZ _ _ _,nofun,⟨rfl,λ g' hg'=>(by omega)⟩,⟨λ g' i' hm=>(by unfold Made at hm;omega),λ g' i' x hm=>(by unfold Made at hm;omega),λ g' i' _ _ x hm=>(by unfold Made at hm;omega)⟩,g1⟩,rfl,rfl,rfl,rfl,rfl,trivial⟩,?_⟩;rintro m s wg ⟨g,gv,gl,B,ad,rfl,hg,rfl,hc,hgo,hgn,wC,GR,hgb⟩;refine aj (λ c=>?_) (λ c=>?_)
 ·have c1:g<n:=by simp at c;omega
  refine ⟨by omega,by omega,?_⟩;refine ⟨λ m s wk=>∃ (j:Nat) (av:Value) (B:Nat->Nat->Nat) (ad:Nat->Nat->fK),m=2*f+1 - j/\j<=2*f+1/\s=[(0,.int .i64 n),(1,.int .i64 f),(6,Ptt bc),(7,.int .i64 g),(8,av),(27,.int .i64 n),(28,.int .i64 g),(33,.int .i64 (2*(f:Int)+1)),(34,.int .i64 j)]/\wk.ownsRow 0 133 1 av j (ptrs B g j)/\(∀ x,av.ownBlock=some x->wg.heap.size<=x)/\AQ wk (2*f+1) g B gl/\NV A w wk n (2*f+1) g j B ad/\GB none wg wk,⟨_,_,⟨0,.slice none 0 0,B,ad,rfl,Nat.zero_le _,rfl,eZ _ _ _,nofun,wC,GR,GB.refl _ _⟩,rfl,rfl,rfl,rfl,rfl,rfl,rfl,rfl,rfl,trivial⟩,?_⟩;have adA:=wC;clear GR wC;rintro m s wk ⟨j,av,B,ad,rfl,hj,rfl,hao,Zu,wC,GR,mH⟩;refine aj (λ c=>?_) (λ c=>?_)
  ·have c2:j<2*f+1:=by simp at c;omega
   refine .inl ⟨by omega,.inl ⟨by omega,λ w2 b2 m2 g2 l2=>⟨_,_,_,m2,rfl,rfl,λ w3 m3 g3=>?_⟩⟩⟩;have g13:GB none wk w3:=g2.new g3 l2;refine ⟨_,_,m3,[.int .u8 g,.int .u8 j],rfl,rfl,by omega,by omega,_,Zi HA g j n (2*f+1) c1 hn.2,?_⟩;rintro _ w4 ⟨br,rfl,hb,hW,k4⟩;have TP:=GR.ax g13;obtain ⟨jw,TQ,su⟩:=TP.more c2 ((hgb.trans mH).trans g13) hW;have gk4:GB none wk w4:=g13.trans su;refine λ w5 b5 m5 g5 l5=>?_
   have Vn:GB none wk w5:=gk4.trans g5;obtain ⟨aa,ac,rfl⟩:=af hao;have Zv:=aA hao (w1:=w5) λ x hx=>by obtain ⟨cur,hc⟩:=aD hao hx;exact Vn.block x (ae hc) nofun
   refine ⟨_,[Ptt br],Zv,⟨_,_,m5,rfl,rfl,rfl⟩,by omega,λ v' w6 Mo g6 n6=>?_⟩;refine ⟨by omega,_,_,⟨j+1,v',fE B g j br,jw,rfl,by omega,rfl,by rw [TN];exact Mo,λ x hx=>(n6 x hx).elim (Zu x) λ hl=>?_,?_,?_,GB.ownB (mH.trans Vn) g6 Zu⟩,⟨rfl,rfl,rfl,rfl,rfl,rfl,rfl,rfl,rfl,trivial⟩,by omega⟩
   ·have:=(mH.trans Vn).size;omega
   ·refine ⟨wC.1,λ g' hg'=>?_⟩
    obtain ⟨bs,ct,cur,h1,h2,h3,h4⟩:=(wC.ax Vn).upd.2 g' hg';refine ⟨bs,ct,cur,h1,h2,g6.get h3 λ e=>?_,h4⟩;have e1:=Zu bs e.symm;obtain ⟨bs',Vo,cur',p1,p2,p3,p4⟩:=adA.2 g' hg';rw [h1] at p1;injection p1 with p1;injection p1 with p1;injection p1 with p1;injection p1 with p1;have:=ae p3;omega
   ·exact (TQ.ax g5).GK g6 (t:=133) (by decide) ⟨by decide,by decide,by decide⟩ λ x hx=>aD Zv hx
  ·have c2:j=2*f+1:=by simp at c;omega
   subst c2;obtain ⟨ga,gc,rfl⟩:=af hgo;have hck:=mH.get hc nofun;have hgo':=aA hgo (w1:=wk) λ x hx=>by obtain ⟨cur,hc⟩:=aD hgo hx;exact mH.block x (ae hc) nofun
   obtain ⟨bs,cap,cur,rfl,aR,htk,hsz,hcap⟩:=jE hao (by omega);refine ⟨_,_,hck,_,rfl,λ w2 b2 m2 g2 l2=>?_⟩;have JN:=aA hgo' (w1:=w2) λ x hx=>by obtain ⟨cur,hc⟩:=aD hgo' hx;exact g2.block x (ae hc) nofun
   refine ⟨_,[.slice (some ⟨bs,0,none⟩) (2*f+1) cap],JN,⟨_,_,m2,rfl,rfl,rfl⟩,by omega,λ Qv w3 ho3 g3 n3=>?_⟩;have hc3:w3.heap[bc]? = _:=g3.get (g2.get hck nofun) λ e=>by
    obtain ⟨c,hc'⟩:=aD JN e.symm;rw [g2.get hck nofun] at hc';injection hc' with hc';injection hc' with _ hc';revert hc';decide
   obtain ⟨na,nc,rfl⟩:=af ho3;refine ⟨_,_,_,hc3,rfl,rfl,λ w4 m4 g4=>?_⟩;have Zw:w.heap.size<=bc:=l1;have G2:GB none w w2:=(hgb.trans mH).trans g2;have G3:GB none w w3:=GB.ownB G2 g3 hgn;have G4:GB none w w4:=G3.new g4 Zw;have adB:=wC.ax g2;have adD:=adB.GK g3 (t:=132) (by decide) λ x hx=>aD JN hx
   have adE:=adD.GK g4 (t:=131) (by decide) λ x hx=>⟨_,by cases hx;exact hc3⟩
   have TP:=(GR.ax g2).GK g3 (t:=132) (by decide) ⟨by decide,by decide,by decide⟩ λ x hx=>aD JN hx
   have TQ:=TP.GK g4 (t:=131) (by decide) ⟨by decide,by decide,by decide⟩ λ x hx=>⟨_,by cases hx;exact hc3⟩
   have adF:w4.heap[bs]? = some (.cells cur 133):=g4.get (g3.get (g2.get aR nofun) λ e=>by
    obtain ⟨c,hc'⟩:=aD JN e.symm;rw [g2.get aR nofun] at hc';injection hc' with hc';injection hc' with _ hc';revert hc';decide) λ e=>by
    cases e
    rw [aR] at hck;injection hck with hck;injection hck with _ hck;revert hck;decide
   refine ⟨by omega,_,_,⟨g+1,_,gl++[.slice (some ⟨bs,0,none⟩) (2*f+1) cap],B,ad,rfl,by omega,rfl,m4,aA ho3 λ x hx=>?_,λ x hx=>(n3 x hx).elim (hgn x) λ hl=>?_,⟨?_,λ g' hg'=>?_⟩,TQ.next,G4⟩,⟨rfl,rfl,rfl,rfl,rfl,trivial⟩,by omega⟩
   ·obtain ⟨c,hc'⟩:=aD ho3 hx
    refine g4.block x (ae hc') λ e=>?_
    cases e
    rw [hc3] at hc';injection hc' with hc';injection hc' with _ hc';revert hc';decide
   ·have:=G2.size;omega
   ·rw [List.length_append,wC.1];rfl
   ·by_cases e:g'<g
    ·obtain ⟨bs',Vo,cur',p1,p2,p3,p4⟩:=adE.2 g' e
     exact ⟨bs',Vo,cur',by rw [List.getElem?_append_left (by rw [wC.1];exact e)];exact p1,p2,p3,p4⟩
    ·have e:g'=g:=by omega
     subst e;refine ⟨bs,cap,cur,by rw [List.getElem?_append_right (by rw [wC.1];exact Nat.le_refl _),wC.1,Nat.sub_self];rfl,?_,adF,λ i hi=>?_⟩
     ·exact hcap
     ·have:=congrArg (λ l=>l[i]?) htk
      simp only [Nat.mul_one] at this;rw [List.getElem?_take,if_pos hi] at this;rw [this];simp [ptrs,hi]
 ·have c1:g=n:=by simp at c;omega
  subst c1;obtain ⟨bg,cap,cur,rfl,aR,htk,hsz,hcap⟩:=jE hgo (by omega);refine ⟨bc,rfl,l1,⟨_,_,B,ad,⟨⟨hc,eZ _ _ _,Nat.zero_le _,⟨bg,cap,cur,_,rfl,hcap,aR,by decide,λ g' hg'=>?_⟩,λ g' i' hg' hi'=>GR.rep g' i' (.inl ⟨hg',hi'⟩),λ g1 i1 g2 i2 x p1 p2 p3 p4=>GR.sep g1 i1 g2 i2 x (.inl ⟨p1,p2⟩) (.inl ⟨p3,p4⟩),nofun⟩,λ b o hb=>⟨hgb.get hb nofun,λ hC=>?_⟩,hgb.os,hgb.out⟩⟩,hgb.kz⟩
  ·obtain ⟨bs',Vo,cur',p1,p2,p3,p4⟩:=wC.2 g' hg'
   refine ⟨bs',Vo,cur',_,?_,p2,p3,by decide,p4⟩;have hg'':g'<g:=hg';refine Eq.trans ?_ p1;rw [<- htk,List.getElem?_take,if_pos (by omega)]
  ·have hl:=ae hb
   rcases hC with e | e | ⟨g',i',p1,p2,p3⟩
   ·have Zw:w.heap.size<=bc:=l1
    omega
   ·cases e
   ·have:=GR.new g' i' b (.inl ⟨p1,p2⟩) p3;omega
end
end
end Go.Proofs.YtignemioillaiaaGreat
