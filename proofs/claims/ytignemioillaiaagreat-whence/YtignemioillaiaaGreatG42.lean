/- What is read (5): messages; Marshal, Parse. -/
import Derived.Test.YtignemioillaiaaGreatG41
namespace Go.Proofs.YtignemioillaiaaGreat
set_option maxHeartbeats 8000000
set_option maxRecDepth 100000
section
open Go Go.Conc
def dW(l:List Nat):MM×List Nat:=nx 1 l λk l =>
 if k=1 then rn pI l λq l=>({ aO k with q:=q },l)
 else if k=2 then rn lU l λp l=>({ aO k with p:=p },l)
 else if k=3 then rn iA l λb l=>({ aO k with b:=b },l)
 else if k=5 then rn iA l λb l=>({ aO k with b:=b },l)
 else if k=4 then rn iA l λb l=>rn (jr nL) l λvs l=>({ aO k with b:=b,vs:=vs },l)
 else if k=6 then rn iA l λb l=>nx 4 l λs l=>rn ni l λc l=>({ aO k with b:=b,s:=s,c:=c },l)
 else if k=7 then rn iA l λb l=>nx 4 l λs l=>({ aO k with b:=b,s:=s },l)
 else if k=8 then nx 4 l λs l=>rn ni l λc l=>({ aO k with s:=s,c:=c },l)
 else if k=9 then rn Bn l λr l=>({ aO k with r:=r },l)
 else if k=10 then nx 1 l λp l=>nx 4 l λs l=>({ aO k with peer:=p,seq:=s },l)
 else(aO k,l)
theorem bY.bV{w w':World}{v:Value}{l:List MV}{x t:Nat}{c:Array Value}(h:bY w v l)(g:GB (some x) w w')(hx:w.heap[x]? = some (.cells c t))(h1:t≠128)(h2:t≠57)(h3:t≠196):bY w' v l:=by
 obtain⟨ps,a1,a2,a3⟩:=h;exact⟨ps,a1,a2.bV g hx h3,λi y p hy hp=>(a3 i y p hy hp).bV g hx h1 h2⟩
section
variable{w:World}{b:Nat}{l:List Nat}
theorem aaM(hs:Src w b l):ag Tryz.prog 161 #[Ptt b] w (λv w'=>∃x l',dW l=(x,l')/\AR w' v x/\Src w' b l'/\GB (some b) w w'):=by
 refine aj ah mixed Tryz.func161 rfl rfl ?_;refine λw1 b1 m1 g1 l1=>?_
 refine⟨_,kv (hs.keep (g1.block b hs.lt nofun)),?_⟩;rintro _ w2 ⟨k,l2,ek,ck,rfl,s2,g2⟩;refine λw3 b3 m3 g3 l3=>⟨_,_,_,m3,rfl,rfl,λw4 m4 g4=>?_⟩
 have B:=Bx.aae hs m1 g1 l1 s2 g2 m3 g3 l3 m4 g4;clear m1 g1 l1 s2 g2 m3 g3 l3 m4 g4;by_cases k1:k=1
 ·subst k1
  refine⟨_,_,B.m2,_,rfl,?_⟩;refine⟨_,Rf B.s,?_⟩;rintro _ w3 ⟨q,l3,eq,rfl,s3,g3⟩;replace B:=B.rd s3 g3;clear s3 g3;refine⟨_,_,_,B.m2,rfl,rfl,λw4 m4 g4=>?_⟩;replace B:=B.st m4 g4;clear m4 g4;refine⟨_,_,B.m2,dS { aO 1 with q:=q } (.slice none 0 0) (.slice none 0 0) (.slice none 0 0) (.slice none 0 0) (.slice none 0 0),rfl,rfl,_,_,_,B.m1,rfl,rfl,λw5 m5 g5=>?_⟩;obtain⟨s5,g5⟩:=B.fin g5;exact⟨_,_,m5,dS { aO 1 with q:=q } (.slice none 0 0) (.slice none 0 0) (.slice none 0 0) (.slice none 0 0) (.slice none 0 0),rfl,rfl,_,_,by rw[dW,aY ek,if_pos rfl,dQ eq];rfl,⟨_,_,_,_,_,rfl,aL.zero _,bY.zero _,aL.zero _⟩,s5,g5⟩
 by_cases k2:k=2
 ·subst k2
  refine⟨_,_,B.m2,_,rfl,?_⟩;refine⟨_,Rh B.s,?_⟩;rintro _ w3 ⟨p,l3,ep,rfl,s3,g3⟩;replace B:=B.rd s3 g3;clear s3 g3;refine⟨_,_,_,B.m2,rfl,rfl,λw4 m4 g4=>?_⟩;replace B:=B.st m4 g4;clear m4 g4;refine⟨_,_,B.m2,dS { aO 2 with p:=p } (.slice none 0 0) (.slice none 0 0) (.slice none 0 0) (.slice none 0 0) (.slice none 0 0),rfl,rfl,_,_,_,B.m1,rfl,rfl,λw5 m5 g5=>?_⟩;obtain⟨s5,g5⟩:=B.fin g5;exact⟨_,_,m5,dS { aO 2 with p:=p } (.slice none 0 0) (.slice none 0 0) (.slice none 0 0) (.slice none 0 0) (.slice none 0 0),rfl,rfl,_,_,by rw[dW,aY ek,if_neg (by decide),if_pos rfl,dQ ep];rfl,⟨_,_,_,_,_,rfl,aL.zero _,bY.zero _,aL.zero _⟩,s5,g5⟩
 by_cases k3:k=3
 ·subst k3
  refine⟨_,_,B.m2,_,rfl,?_⟩;refine⟨_,yf B.s,?_⟩;rintro _ w3 ⟨bb,l3,Fb,rfl,s3,g3⟩;replace B:=B.rd s3 g3;clear s3 g3;refine⟨_,_,_,B.m2,rfl,rfl,λw4 m4 g4=>?_⟩;replace B:=B.st m4 g4;clear m4 g4;refine⟨_,_,B.m2,dS { aO 3 with b:=bb } (.slice none 0 0) (.slice none 0 0) (.slice none 0 0) (.slice none 0 0) (.slice none 0 0),rfl,rfl,_,_,_,B.m1,rfl,rfl,λw5 m5 g5=>?_⟩;obtain⟨s5,g5⟩:=B.fin g5;exact⟨_,_,m5,dS { aO 3 with b:=bb } (.slice none 0 0) (.slice none 0 0) (.slice none 0 0) (.slice none 0 0) (.slice none 0 0),rfl,rfl,_,_,by rw[dW,aY ek,if_neg (by decide),if_neg (by decide),if_pos rfl,dQ Fb];rfl,⟨_,_,_,_,_,rfl,aL.zero _,bY.zero _,aL.zero _⟩,s5,g5⟩
 by_cases k5:k=5
 ·subst k5
  refine⟨_,_,B.m2,_,rfl,?_⟩;refine⟨_,yf B.s,?_⟩;rintro _ w3 ⟨bb,l3,Fb,rfl,s3,g3⟩;replace B:=B.rd s3 g3;clear s3 g3;refine⟨_,_,_,B.m2,rfl,rfl,λw4 m4 g4=>?_⟩;replace B:=B.st m4 g4;clear m4 g4;refine⟨_,_,B.m2,dS { aO 5 with b:=bb } (.slice none 0 0) (.slice none 0 0) (.slice none 0 0) (.slice none 0 0) (.slice none 0 0),rfl,rfl,_,_,_,B.m1,rfl,rfl,λw5 m5 g5=>?_⟩;obtain⟨s5,g5⟩:=B.fin g5;exact⟨_,_,m5,dS { aO 5 with b:=bb } (.slice none 0 0) (.slice none 0 0) (.slice none 0 0) (.slice none 0 0) (.slice none 0 0),rfl,rfl,_,_,by rw[dW,aY ek,if_neg (by decide),if_neg (by decide),if_neg (by decide),if_pos rfl,dQ Fb];rfl,⟨_,_,_,_,_,rfl,aL.zero _,bY.zero _,aL.zero _⟩,s5,g5⟩
 by_cases k4:k=4
 ·subst k4
  refine⟨_,_,B.m2,_,rfl,?_⟩;refine⟨_,yf B.s,?_⟩;rintro _ w3 ⟨bb,l3,Fb,rfl,s3,g3⟩;replace B:=B.rd s3 g3;clear s3 g3;refine⟨_,_,_,B.m2,rfl,rfl,λw4 m4 g4=>?_⟩;replace B:=B.st m4 g4;clear m4 g4;refine⟨_,U1 B.s,?_⟩;rintro vv w3 ⟨vs,l3,evs,hv,s3,g3⟩;obtain⟨va,vc,rfl⟩:=hv.sl;replace B:=B.rd s3 g3;clear s3 g3;refine⟨_,_,_,B.m2,rfl,rfl,λw4 m4 g4=>?_⟩;replace hv:=hv.bV g4 B.m2 (by decide) (by decide) (by decide);replace B:=B.st m4 g4;clear m4 g4;refine⟨_,_,B.m2,dS { aO 4 with b:=bb,vs:=vs } (.slice none 0 0) (.slice none 0 0) (.slice va vs.length vc) (.slice none 0 0) (.slice none 0 0),rfl,rfl,_,_,_,B.m1,rfl,rfl,λw5 m5 g5=>?_⟩;replace hv:=hv.bV g5 B.m1 (by decide) (by decide) (by decide);obtain⟨s5,g5⟩:=B.fin g5;exact⟨_,_,m5,dS { aO 4 with b:=bb,vs:=vs } (.slice none 0 0) (.slice none 0 0) (.slice va vs.length vc) (.slice none 0 0) (.slice none 0 0),rfl,rfl,_,_,by rw[dW,aY ek,if_neg (by decide),if_neg (by decide),if_neg (by decide),if_neg (by decide),if_pos rfl,dQ Fb,dQ evs];rfl,⟨_,_,_,_,_,rfl,aL.zero _,hv,aL.zero _⟩,s5,g5⟩
 by_cases k6:k=6
 ·subst k6
  refine⟨_,_,B.m2,_,rfl,?_⟩;refine⟨_,yf B.s,?_⟩;rintro _ w3 ⟨bb,l3,Fb,rfl,s3,g3⟩;replace B:=B.rd s3 g3;clear s3 g3;refine⟨_,_,_,B.m2,rfl,rfl,λw4 m4 g4=>?_⟩;replace B:=B.st m4 g4;clear m4 g4;refine⟨_,oZ B.s,?_⟩;rintro _ w3 ⟨s,l3,es,cs,rfl,s3,g3⟩;replace B:=B.rd s3 g3;clear s3 g3;refine⟨_,_,_,B.m2,rfl,rfl,λw4 m4 g4=>?_⟩;replace B:=B.st m4 g4;clear m4 g4;refine⟨_,Ki B.s,?_⟩;rintro _ w3 ⟨c,l3,ec,⟨rv,dv,rfl,hr⟩,s3,g3⟩;obtain⟨ra,rm,rc,da,dm,dc,rfl,rfl⟩:=hr.sl;replace B:=B.rd s3 g3;clear s3 g3;refine⟨_,_,_,B.m2,rfl,rfl,λw4 m4 g4=>?_⟩;replace hr:=hr.bV g4 B.m2 (by decide) (by decide);replace B:=B.st m4 g4;clear m4 g4;refine⟨_,_,B.m2,dS { aO 6 with b:=bb,s:=s,c:=c } (.slice ra rm rc) (.slice da dm dc) (.slice none 0 0) (.slice none 0 0) (.slice none 0 0),rfl,rfl,_,_,_,B.m1,rfl,rfl,λw5 m5 g5=>?_⟩;replace hr:=hr.bV g5 B.m1 (by decide) (by decide);obtain⟨s5,g5⟩:=B.fin g5;exact⟨_,_,m5,dS { aO 6 with b:=bb,s:=s,c:=c } (.slice ra rm rc) (.slice da dm dc) (.slice none 0 0) (.slice none 0 0) (.slice none 0 0),rfl,rfl,_,_,by rw[dW,aY ek,if_neg (by decide),if_neg (by decide),if_neg (by decide),if_neg (by decide),if_neg (by decide),if_pos rfl,dQ Fb,aY es,dQ ec];rfl,⟨_,_,_,_,_,rfl,hr,bY.zero _,aL.zero _⟩,s5,g5⟩
 by_cases k7:k=7
 ·subst k7
  refine⟨_,_,B.m2,_,rfl,?_⟩;refine⟨_,yf B.s,?_⟩;rintro _ w3 ⟨bb,l3,Fb,rfl,s3,g3⟩;replace B:=B.rd s3 g3;clear s3 g3;refine⟨_,_,_,B.m2,rfl,rfl,λw4 m4 g4=>?_⟩;replace B:=B.st m4 g4;clear m4 g4;refine⟨_,oZ B.s,?_⟩;rintro _ w3 ⟨s,l3,es,cs,rfl,s3,g3⟩;replace B:=B.rd s3 g3;clear s3 g3;refine⟨_,_,_,B.m2,rfl,rfl,λw4 m4 g4=>?_⟩;replace B:=B.st m4 g4;clear m4 g4;refine⟨_,_,B.m2,dS { aO 7 with b:=bb,s:=s } (.slice none 0 0) (.slice none 0 0) (.slice none 0 0) (.slice none 0 0) (.slice none 0 0),rfl,rfl,_,_,_,B.m1,rfl,rfl,λw5 m5 g5=>?_⟩;obtain⟨s5,g5⟩:=B.fin g5;exact⟨_,_,m5,dS { aO 7 with b:=bb,s:=s } (.slice none 0 0) (.slice none 0 0) (.slice none 0 0) (.slice none 0 0) (.slice none 0 0),rfl,rfl,_,_,by rw[dW,aY ek,if_neg (by decide),if_neg (by decide),if_neg (by decide),if_neg (by decide),if_neg (by decide),if_neg (by decide),if_pos rfl,dQ Fb,aY es];rfl,⟨_,_,_,_,_,rfl,aL.zero _,bY.zero _,aL.zero _⟩,s5,g5⟩
 by_cases k8:k=8
 ·subst k8
  refine⟨_,_,B.m2,_,rfl,?_⟩;refine⟨_,oZ B.s,?_⟩;rintro _ w3 ⟨s,l3,es,cs,rfl,s3,g3⟩;replace B:=B.rd s3 g3;clear s3 g3;refine⟨_,_,_,B.m2,rfl,rfl,λw4 m4 g4=>?_⟩;replace B:=B.st m4 g4;clear m4 g4;refine⟨_,Ki B.s,?_⟩;rintro _ w3 ⟨c,l3,ec,⟨rv,dv,rfl,hr⟩,s3,g3⟩;obtain⟨ra,rm,rc,da,dm,dc,rfl,rfl⟩:=hr.sl;replace B:=B.rd s3 g3;clear s3 g3;refine⟨_,_,_,B.m2,rfl,rfl,λw4 m4 g4=>?_⟩;replace hr:=hr.bV g4 B.m2 (by decide) (by decide);replace B:=B.st m4 g4;clear m4 g4;refine⟨_,_,B.m2,dS { aO 8 with s:=s,c:=c } (.slice ra rm rc) (.slice da dm dc) (.slice none 0 0) (.slice none 0 0) (.slice none 0 0),rfl,rfl,_,_,_,B.m1,rfl,rfl,λw5 m5 g5=>?_⟩;replace hr:=hr.bV g5 B.m1 (by decide) (by decide);obtain⟨s5,g5⟩:=B.fin g5;exact⟨_,_,m5,dS { aO 8 with s:=s,c:=c } (.slice ra rm rc) (.slice da dm dc) (.slice none 0 0) (.slice none 0 0) (.slice none 0 0),rfl,rfl,_,_,by rw[dW,aY ek,if_neg (by decide),if_neg (by decide),if_neg (by decide),if_neg (by decide),if_neg (by decide),if_neg (by decide),if_neg (by decide),if_pos rfl,aY es,dQ ec];rfl,⟨_,_,_,_,_,rfl,hr,bY.zero _,aL.zero _⟩,s5,g5⟩
 by_cases k9:k=9
 ·subst k9
  refine⟨_,_,B.m2,_,rfl,?_⟩;refine⟨_,VX B.s,?_⟩;rintro _ w3 ⟨r,l3,er,⟨rv,dv,rfl,hr⟩,s3,g3⟩;obtain⟨ra,rm,rc,da,dm,dc,rfl,rfl⟩:=hr.sl;replace B:=B.rd s3 g3;clear s3 g3;refine⟨_,_,_,B.m2,rfl,rfl,λw4 m4 g4=>?_⟩;replace hr:=hr.bV g4 B.m2 (by decide) (by decide);replace B:=B.st m4 g4;clear m4 g4;refine⟨_,_,B.m2,dS { aO 9 with r:=r } (.slice none 0 0) (.slice none 0 0) (.slice none 0 0) (.slice ra rm rc) (.slice da dm dc),rfl,rfl,_,_,_,B.m1,rfl,rfl,λw5 m5 g5=>?_⟩;replace hr:=hr.bV g5 B.m1 (by decide) (by decide);obtain⟨s5,g5⟩:=B.fin g5;exact⟨_,_,m5,dS { aO 9 with r:=r } (.slice none 0 0) (.slice none 0 0) (.slice none 0 0) (.slice ra rm rc) (.slice da dm dc),rfl,rfl,_,_,by rw[dW,aY ek,if_neg (by decide),if_neg (by decide),if_neg (by decide),if_neg (by decide),if_neg (by decide),if_neg (by decide),if_neg (by decide),if_neg (by decide),if_pos rfl,dQ er];rfl,⟨_,_,_,_,_,rfl,aL.zero _,bY.zero _,hr⟩,s5,g5⟩
 by_cases k10:k=10
 ·subst k10
  refine⟨_,_,B.m2,_,rfl,?_⟩;refine⟨_,kv B.s,?_⟩;rintro _ w3 ⟨p,l3,ep,cp,rfl,s3,g3⟩;replace B:=B.rd s3 g3;clear s3 g3;refine⟨_,_,_,B.m2,rfl,rfl,λw4 m4 g4=>?_⟩;replace B:=B.st m4 g4;clear m4 g4;refine⟨_,oZ B.s,?_⟩;rintro _ w3 ⟨t,l3,et,ct,rfl,s3,g3⟩;replace B:=B.rd s3 g3;clear s3 g3;refine⟨_,_,_,B.m2,rfl,rfl,λw4 m4 g4=>?_⟩;replace B:=B.st m4 g4;clear m4 g4;refine⟨_,_,B.m2,dS { aO 10 with peer:=p,seq:=t } (.slice none 0 0) (.slice none 0 0) (.slice none 0 0) (.slice none 0 0) (.slice none 0 0),rfl,rfl,_,_,_,B.m1,rfl,rfl,λw5 m5 g5=>?_⟩;obtain⟨s5,g5⟩:=B.fin g5;exact⟨_,_,m5,dS { aO 10 with peer:=p,seq:=t } (.slice none 0 0) (.slice none 0 0) (.slice none 0 0) (.slice none 0 0) (.slice none 0 0),rfl,rfl,_,_,by rw[dW,aY ek,if_neg (by decide),if_neg (by decide),if_neg (by decide),if_neg (by decide),if_neg (by decide),if_neg (by decide),if_neg (by decide),if_neg (by decide),if_neg (by decide),if_pos rfl,aY ep,aY et];rfl,⟨_,_,_,_,_,rfl,aL.zero _,bY.zero _,aL.zero _⟩,s5,g5⟩
 refine⟨_,_,B.m2,_,rfl,?_⟩;refine au (λq=>absurd (by simp at q;omega) k1) (λ_=>?_);refine au (λq=>absurd (by simp at q;omega) k2) (λ_=>?_);refine au (λq=>absurd (by simp at q;omega) k3) (λ_=>?_);refine au (λq=>absurd (by simp at q;omega) k5) (λ_=>?_);refine au (λq=>absurd (by simp at q;omega) k4) (λ_=>?_);refine au (λq=>absurd (by simp at q;omega) k6) (λ_=>?_);refine au (λq=>absurd (by simp at q;omega) k7) (λ_=>?_);refine au (λq=>absurd (by simp at q;omega) k8) (λ_=>?_);refine au (λq=>absurd (by simp at q;omega) k9) (λ_=>?_);refine au (λq=>absurd (by simp at q;omega) k10) (λ_=>?_);refine⟨_,_,B.m2,dS (aO k) (.slice none 0 0) (.slice none 0 0) (.slice none 0 0) (.slice none 0 0) (.slice none 0 0),rfl,rfl,_,_,_,B.m1,rfl,rfl,λw5 m5 g5=>?_⟩;obtain⟨s5,g5⟩:=B.fin g5;exact⟨_,_,m5,dS (aO k) (.slice none 0 0) (.slice none 0 0) (.slice none 0 0) (.slice none 0 0) (.slice none 0 0),rfl,rfl,_,_,by rw[dW,aY ek,if_neg k1,if_neg k2,if_neg k3,if_neg k5,if_neg k4,if_neg k6,if_neg k7,if_neg k8,if_neg k9,if_neg k10],⟨_,_,_,_,_,rfl,aL.zero _,bY.zero _,aL.zero _⟩,s5,g5⟩
end
theorem DR{r:Rg}(h:oU r=true):r.sm:=by
 unfold oU BS za jP at h;simp only[Bool.and_eq_true,decide_eq_true_eq]at h;exact⟨h.2.2.2.2.1.1,h.2.2.2.2.2.1⟩
theorem Br{r:Rg}(h:tO r=true):r.sm:=by
 unfold tO at h;simp only[Bool.and_eq_true,beq_iff_eq]at h;exact⟨by omega,by omega⟩
theorem KD{c:MC}(h:lh c=true):c.r.sm:=by
 unfold lh xZ at h;split at h
 ·simp only[Bool.and_eq_true]at h;exact Br h.2.1
 split at h
 ·simp only[Bool.and_eq_true]at h;exact Br h.2.1
 split at h
 ·simp only[Bool.and_eq_true]at h;exact DR h.1
 split at h
 ·simp only[Bool.and_eq_true]at h;exact Br h.2.2
 ·cases h
theorem H9{l:List MV}(h:nI l=true):l.length<=255/\∀v∈l,v.c.r.sm:=by
 unfold nI jP at h;simp only[Bool.and_eq_true,decide_eq_true_eq]at h;refine⟨h.1,λv hv=>?_⟩;obtain⟨i,hi,rfl⟩:=List.getElem_of_mem hv;have:=List.all_eq_true.1 h.2 i (List.mem_range.2 hi);unfold wP at this;rw[List.getElem?_eq_getElem hi]at this;simp only[Bool.and_eq_true]at this;exact KD this.1
theorem pq{m:MM}(h:nJ m=true):m.c.r.sm/\m.vs.length=0/\m.r.sm:=by
 unfold nJ xZ at h;simp only[Bool.and_eq_true,beq_iff_eq]at h;exact⟨Br h.2.2.2.2.2.1.2.1,by omega,Br h.2.2.2.2.2.2.2.1⟩
theorem MM.sm.of{m:MM}(h1:m.c.r.sm)(h2:m.r.sm)(h3:m.vs.length=0):m.sm:=⟨h1,h2,by omega,λv hv=>by rw[List.eq_nil_of_length_eq_zero h3]at hv;cases hv⟩
theorem Fe{m:MM}(h:fu m=true):m.sm/\1<=m.kind/\m.kind<=10:=by
 unfold fu at h;split at h
 ·simp only[Bool.and_eq_true]at h;obtain⟨a,b,c⟩:=pq h.2;exact⟨.of a c b,by omega,by omega⟩
 split at h
 ·simp only[Bool.and_eq_true]at h;obtain⟨a,b,c⟩:=pq h.2;exact⟨.of a c b,by omega,by omega⟩
 split at h
 ·obtain⟨a,b,c⟩:=pq h;exact⟨.of a c b,by omega,by omega⟩
 split at h
 ·obtain⟨a,b,c⟩:=pq h;exact⟨.of a c b,by omega,by omega⟩
 split at h
 ·simp only[Bool.and_eq_true]at h;obtain⟨a,b,c⟩:=pq h.2;exact⟨⟨a,c,(H9 h.1).1,(H9 h.1).2⟩,by omega,by omega⟩
 split at h
 ·simp only[Bool.and_eq_true]at h;obtain⟨a,b,c⟩:=pq h.2;exact⟨.of (KD h.1) c b,by omega,by omega⟩
 split at h
 ·obtain⟨a,b,c⟩:=pq h;exact⟨.of a c b,by omega,by omega⟩
 split at h
 ·simp only[Bool.and_eq_true]at h;obtain⟨a,b,c⟩:=pq h.2;exact⟨.of (KD h.1) c b,by omega,by omega⟩
 split at h
 ·simp only[Bool.and_eq_true]at h;obtain⟨a,b,c⟩:=pq h.2;exact⟨.of a (DR h.1) b,by omega,by omega⟩
 split at h
 ·simp only[Bool.and_eq_true]at h;obtain⟨a,b,c⟩:=pq h.2;exact⟨.of a c b,by omega,by omega⟩
 ·cases h
def ru(m:MM):ByteArray:=if fu m=true then ve (kC m)else⟨#[]⟩
def oG(d:ByteArray):Option MM:=if fu (dW (dl d)).1=true/\(ve (kC (dW (dl d)).1)).data.toList=d.data.toList then some (dW (dl d)).1 else none
section
variable{w:World}{v:Value}{m:MM}
theorem zq(h:AR w v m):ag Tryz.prog 158 #[v] w (λv' w'=>v'=.tuple #[.string (ru m),.int .i64 (if fu m=true then 0 else 1)]/\GB none w w'):=by
 obtain⟨rv,dv,vv,rv',eO,rfl,hc,hv,hr⟩:=h;obtain⟨_,_,_,_,_,_,e1,e2⟩:=hc.sl;obtain⟨_,_,_,_,_,_,e3,e4⟩:=hr.sl;obtain⟨_,_,e5⟩:=hv.sl;subst e1 e2 e3 e4 e5;refine aj ah mixed Tryz.func158 rfl rfl ?_;refine λw1 b1 m1 g1 l1=>?_
 refine⟨_,_,m1,dS m _ _ _ _ _,rfl,rfl,_,Pg (hc.kz g1.kz) (hv.kz g1.kz) (hr.kz g1.kz),?_⟩;rintro _ w2 ⟨rfl,g2⟩;have G:=g1.trans g2;unfold ru;obtain⟨a,ha⟩:∃a,fu m=a:=⟨_,rfl⟩;rw[ha];cases a
 ·exact⟨rfl,G⟩
 ·obtain⟨hs,hk⟩:=Fe ha
  refine⟨_,_,g2.get m1 nofun,dS m _ _ _ _ _,rfl,rfl,_,QM (dY _ _ _) (by decide) (hc.kz G.kz) (hv.kz G.kz) (hr.kz G.kz) hs hk,?_⟩;intro v3 w3 P;have hrow:=P.row;rw[Nat.zero_add,List.nil_append]at hrow;obtain⟨a3,c3,rfl⟩:=af hrow;exact⟨kC m,hrow,rfl,G.trans P.gb⟩
theorem U2(w:World)(d:ByteArray):ag Tryz.prog 113 #[.string d] w (λv w'=>(∃mv e m,v=.tuple #[mv,.int .i64 e]/\AR w' mv m/\((e=0/\oG d=some m/\1<=m.kind/\m.kind<=10)\/(e≠0/\oG d=none)))/\GB none w w'):=by
 refine aj ah mixed Tryz.func113 rfl rfl ?_;refine λw1 b1 m1 g1 l1 w2 b2 m2 g2 l2=>⟨_,_,_,m2,rfl,rfl,λw3 m3 g3=>?_⟩
 have G3:=g2.new g3 l2;refine⟨_,aaM ⟨d,m3,rfl⟩,?_⟩;rintro _ w4 ⟨m,l4,em,hm,s4,g4⟩;have G4:GB none w w4:=(g1.trans G3).new g4 (Nat.le_trans g1.size l2);have EP:w4.heap[b1]? = _:=g4.get (G3.get m1 nofun) λe=>by injection e with e;have:=ae m1;omega
 obtain⟨rv,dv,vv,rv',eO,rfl,hc,hv,hr⟩:=hm;obtain⟨_,_,_,_,_,_,e1,e2⟩:=hc.sl;obtain⟨_,_,_,_,_,_,e3,e4⟩:=hr.sl;obtain⟨_,_,e5⟩:=hv.sl;subst e1 e2 e3 e4 e5;refine λw5 b5 m5 g5 l5=>⟨_,_,_,m5,rfl,rfl,λw6 m6 g6=>?_⟩
 have Nl:=g5.new g6 l5;have OM:=Nl.get EP nofun;refine⟨_,_,m6,dS m _ _ _ _ _,rfl,rfl,_,zq ⟨_,_,_,_,_,rfl,hc.kz Nl.kz,hv.kz Nl.kz,hr.kz Nl.kz⟩,?_⟩;rintro _ w7 ⟨rfl,g7⟩;have G7:=(G4.trans Nl).trans g7;have m1:=g7.get OM nofun;have m6:=g7.get m6 nofun;have k:=Nl.trans g7;have em1:(dW (dl d)).1=m:=by rw[em]
 have none':∀w8,GB (some b1) w7 w8->GB none w w8:=λw8 g8=>G7.new g8 l1
 clear EP OM m3 m2 g3 g1 g2 G3 g4 m5 g5 g6;obtain⟨a,ha⟩:∃a,fu m=a:=⟨_,rfl⟩;have hdn:a=false->oG d=none:=λh=>by unfold oG;rw[em1,ha,h];simp
 unfold ru;rw[ha];cases a
 ·refine⟨_,_,_,m1,rfl,rfl,λw8 m8 g8=>?_⟩
  exact⟨_,_,m8,dS (aO 0) (.slice none 0 0) (.slice none 0 0) (.slice none 0 0) (.slice none 0 0) (.slice none 0 0),rfl,rfl,⟨_,_,aO 0,rfl,⟨_,_,_,_,_,rfl,aL.zero _,bY.zero _,aL.zero _⟩,.inr ⟨by decide,hdn rfl⟩⟩,none' w8 g8⟩
 ·refine au (λq=>?_) (λq=>?_)
  ·have q1:oG d=none:=by
    unfold oG;rw[em1,if_neg];rintro⟨_,h⟩;rw[show(if true=true then ve (kC m)else⟨#[]⟩)=ve (kC m)from rfl,ByteArray.toList_eq,ByteArray.toList_eq,h]at q;simp at q
   refine⟨_,_,_,m1,rfl,rfl,λw8 m8 g8=>?_⟩;exact⟨_,_,m8,dS (aO 0) (.slice none 0 0) (.slice none 0 0) (.slice none 0 0) (.slice none 0 0) (.slice none 0 0),rfl,rfl,⟨_,_,aO 0,rfl,⟨_,_,_,_,_,rfl,aL.zero _,bY.zero _,aL.zero _⟩,.inr ⟨by decide,q1⟩⟩,none' w8 g8⟩
  ·have q1:oG d=some m:=by
    unfold oG;rw[em1,if_pos];rw[show(if true=true then ve (kC m)else⟨#[]⟩)=ve (kC m)from rfl,ByteArray.toList_eq,ByteArray.toList_eq]at q;simp at q;exact⟨ha,by simp[q]⟩
   refine⟨_,_,m6,dS m _ _ _ _ _,rfl,rfl,_,_,_,m1,rfl,rfl,λw8 m8 g8=>?_⟩;have hb1:∀{c t},(x:Nat)->w7.heap[x]? = some (.cells c t)->t≠203->x≠b1:=λx hx ht=>dw hx m1 ht
   refine⟨_,_,m8,dS m _ _ _ _ _,rfl,rfl,⟨_,_,m,rfl,⟨_,_,_,_,_,rfl,(hc.kz k.kz).bV g8 m1 (by decide) (by decide),(hv.kz k.kz).bV g8 m1 (by decide) (by decide) (by decide),(hr.kz k.kz).bV g8 m1 (by decide) (by decide)⟩,.inl ⟨rfl,q1,(Fe ha).2⟩⟩,none' w8 g8⟩
end
def dn(l:List Int):List Nat:=l.map λn=>n.toNat%256
theorem eB(a b:List Int):dn (a++b)=dn a++dn b:=List.map_append
theorem Ib:∀(l:List Int) (r:ByteArray),(l.foldl (λr n=>r.push (UInt8.ofNat n.toNat)) r).data.toList=r.data.toList++l.map λn=>UInt8.ofNat n.toNat
 | [],r=>by simp
 |a::l,r=>by rw[List.foldl_cons,Ib l];simp
theorem Cb(l:List Int):dl (ve l)=dn l:=by
 unfold dl ve dn;rw[Ib];show List.map UInt8.toNat ([]++_)=_;simp
theorem Gl{k:Nat}{a l:List Nat}(h:a.length=k):num k (a++l)=(be a,l):=by
 rw[zh (by simp;omega)];subst h;simp
theorem aaO(b:List Nat):∀(a:List Nat),be (a++b)=be a*256 ^ b.length+be b:=by
 suffices h:∀(b:List Nat) (n:Nat),b.foldl (λn b=>n*256+b) n=n*256 ^ b.length+be b from λa=>by
  unfold be;rw[List.foldl_append,h];rfl
 intro b;induction b with
 |nil=>intro n;simp[be]
 |cons x b ih =>
  intro n;unfold be;rw[List.foldl_cons,List.foldl_cons,ih,ih (0*256+x),List.length_cons,Nat.pow_succ,Nat.add_mul,Nat.mul_assoc,Nat.mul_comm 256,Nat.zero_mul,Nat.zero_add,Nat.add_assoc]
theorem Cc(x:Int):IntKind.u8.wrap x=x%256:=rfl
theorem KE(x:Int):IntKind.u32.wrap x=x%4294967296:=rfl
theorem fd{x:Int}{n:Nat}:x.fdiv ((2:Int) ^ n)=x / 2 ^ n:=Int.fdiv_eq_ediv_of_nonneg _ (by exact Int.le_of_lt (Int.pow_pos (by decide)))
theorem Ph(x:Nat):be (dn (b32 x))=x%4294967296:=by
 unfold b32;rw[fd,fd,fd,Cc,Cc,Cc,Cc];simp only[dn,List.map_cons,List.map_nil,be,List.foldl_cons,List.foldl_nil];omega
theorem Nn{x:Int}(h:0<=x):b32 x=b32 ((x.toNat:Nat):Int):=by rw[Int.toNat_of_nonneg h]
theorem aca{x:Nat}(h:x<18446744073709551616):be (dn (b64 x))=x:=by
 unfold b64;rw[eB,aaO,fd,KE,KE,Nn (x:=(x:Int) / 2 ^ 32%4294967296) (by omega),Nn (x:=(x:Int)%4294967296) (by omega),Ph,Ph];show _*256 ^ 4+_=_;omega
section
variable{β:Type}{x:Nat}{l:List Nat}{f:Nat->List Nat->β}
theorem Wp:nx 1 (dn [(x:Int)]++l) f=f (x%256) l:=by
 rw[aY (Gl (k:=1) rfl)];show f (0*256+(x:Int).toNat%256) l=_;congr 1;omega
theorem pW(h:x<256):nx 1 (dn [(x:Int)]++l) f=f x l:=by rw[Wp,Nat.mod_eq_of_lt h]
theorem Np:nx 4 (dn (b32 x)++l) f=f (x%4294967296) l:=by rw[aY (Gl (k:=4) rfl),Ph]
theorem KF(h:x<4294967296):nx 4 (dn (b32 x)++l) f=f x l:=by rw[Np,Nat.mod_eq_of_lt h]
theorem Ff(h:x<18446744073709551616):nx 8 (dn (b64 x)++l) f=f x l:=by rw[aY (Gl (k:=8) rfl),aca h]
end
theorem U8.nat{x:Int}(h:U8 x):∃n:Nat,x=n/\n<256:=⟨x.toNat,by have:=h.1;omega,by have:=h.1;have:=h.2;omega⟩
theorem rC.nat{x:Int}(h:rC x):∃n:Nat,x=n/\n<4294967296:=⟨x.toNat,by have:=h.1;omega,by have:=h.1;have:=h.2;omega⟩
theorem iG.nat{x:Int}(h:iG x):∃n:Nat,x=n/\n<18446744073709551616:=⟨x.toNat,by have:=h.1;omega,by have:=h.1;have:=h.2;omega⟩
theorem U3{x:Row}(h:x.b)(l:List Nat):uH (dn (rQ x)++l)=(x,l):=by
 obtain⟨k,v⟩:=x;obtain⟨k,rfl,hk⟩:=iG.nat (h.k:iG k);obtain⟨v,rfl,hv⟩:=iG.nat (h.v:iG v);unfold uH rQ;rw[eB,List.append_assoc,Ff hk,Ff hv]
theorem U4{x:aB}(h:x.b)(ho:uy x=true)(l:List Nat):lU (dn (mQ x)++l)=(x,l):=by
 obtain⟨c,s,key,k,fo,v,g⟩:=x;obtain⟨c,rfl,hc⟩:=U8.nat (h.c:U8 c);obtain⟨s,rfl,hs⟩:=rC.nat (h.s:rC s);obtain⟨key,rfl,hkey⟩:=iG.nat (h.key:iG key);obtain⟨k,rfl,hk⟩:=U8.nat (h.k:U8 k);obtain⟨v,rfl,hv⟩:=iG.nat (h.v:iG v);obtain⟨g,rfl,hg⟩:=U8.nat (h.g:U8 g);unfold uy at ho;unfold lU mQ;dsimp only at ho |-;simp only[eB,List.append_assoc];rw[pW hc,KF hs,Ff hkey,pW hk];by_cases k1:k=1
 ·subst k1
  rw[if_pos rfl,if_pos (show((1:Nat):Int)=1 from rfl),eB];simp at ho;cases fo with
  |true =>
   have e:BQ true=[((1:Nat):Int)]:=rfl;rw[e,if_pos rfl,List.append_assoc,pW (by decide),if_neg (by decide),Ff hv];have:g=0:=by omega
   subst this;rfl
  |false =>
   have e:BQ false=[((0:Nat):Int)]:=rfl;rw[e,if_neg (by decide),List.append_assoc,pW (by decide),if_pos rfl];have:g=0:=by omega
   have:v=0:=by simp at ho;omega
   subst g v;rfl
 ·rw[if_neg k1,if_neg (show ¬(k:Int)=1 by omega)]
  by_cases k3:k=3
  ·subst k3
   rw[if_pos rfl,if_pos (show((3:Nat):Int)=3 from rfl),pW hg];simp at ho;have:v=0:=by omega
   have:fo=false:=ho.2.2.1;subst v fo;rfl
  ·rw[if_neg k3,if_neg (show ¬(k:Int)=3 by omega)]
   rw[if_neg (show ¬(k:Int)=1 by omega),if_neg (show ¬(k:Int)=3 by omega)]at ho;simp only[Bool.and_eq_true]at ho;have ho:=ho.2;split at ho
   ·simp at ho
    have:v=0:=by omega
    have:g=0:=by omega
    have:fo=false:=ho.1;subst v g fo;rfl
   ·cases ho
theorem KG{x:bQ}(h:x.b)(ho:kJ x=true)(l:List Nat):pI (dn (uf x)++l)=(x,l):=by
 obtain⟨c,s,k,key,v,hi,to⟩:=x;obtain⟨c,rfl,hc⟩:=U8.nat (h.c:U8 c);obtain⟨s,rfl,hs⟩:=rC.nat (h.s:rC s);obtain⟨key,rfl,hkey⟩:=iG.nat (h.key:iG key);obtain⟨k,rfl,hk⟩:=U8.nat (h.k:U8 k);obtain⟨v,rfl,hv⟩:=iG.nat (h.v:iG v);obtain⟨hi,rfl,hhi⟩:=iG.nat (h.hi:iG hi);obtain⟨to,rfl,hto⟩:=U8.nat (h.to:U8 to);unfold kJ at ho;unfold pI uf;dsimp only at ho |-;simp only[eB,List.append_assoc];rw[pW hc,KF hs,pW hk,Ff hkey];by_cases k2:k=2
 ·subst k2
  rw[if_pos rfl,if_pos (show((2:Nat):Int)=2 from rfl),Ff hv];simp at ho;have:hi=0:=by omega
  have:to=0:=by omega
  subst hi to;rfl
 ·rw[if_neg k2,if_neg (show ¬(k:Int)=2 by omega)]
  by_cases k4:k=4
  ·subst k4
   rw[if_pos rfl,if_pos (show((4:Nat):Int)=4 from rfl),eB,List.append_assoc,Ff hhi,pW hto];simp at ho;have:v=0:=by omega
   subst v;rfl
  ·rw[if_neg k4,if_neg (show ¬(k:Int)=4 by omega)]
   simp only[Bool.and_eq_true]at ho;have ho:=ho.2;split at ho
   ·simp at ho
    have:hi=0:=by omega
    have:to=0:=by omega
    have:v=0:=by omega
    subst hi to v;rfl
   ·rw[if_neg (show ¬(k:Int)=2 by omega),if_neg (show ¬(k:Int)=4 by omega)]at ho
    cases ho
theorem KH{α:Type}{f:List Nat->α×List Nat}{e:α->List Int}{g:α->α}:∀{xs:List α},(∀x∈xs,∀l,f (dn (e x)++l)=(g x,l))->(∀x,e x≠[])->∀l,nZ f xs.length (dn (xs.map e).flatten++l)=(xs.map g,l)
 | [],_,_,l=>rfl
 |x::xs,h,ne,l=>by
  rw[List.map_cons,List.flatten_cons,eB,List.append_assoc,List.length_cons,zi (h x (List.mem_cons_self) _) (λc=>ne x (by have:=(List.append_eq_nil_iff.1 c).1;exact List.map_eq_nil_iff.1 this)),KH (λy hy=>h y (List.mem_cons_of_mem _ hy)) ne l];rfl
theorem Bt{α:Type}{f:List Nat->α×List Nat}{e:α->List Int}{g:α->α}{xs:List α}(h:∀x∈xs,∀l,f (dn (e x)++l)=(g x,l))(ne:∀x,e x≠[])(hl:xs.length<=255)(l:List Nat):jr f (dn ([(xs.length:Int)]++(xs.map e).flatten)++l)=(xs.map g,l):=by
 unfold jr;rw[eB,List.append_assoc,pW (by omega),KH h ne]
theorem Nq{x:Rg}(h:x.b)(ho:oU x=true)(l:List Nat):Bn (dn (ES x)++l)=(x,l):=by
 have sm:=DR ho;have hp:∀p∈x.aW,uy p=true:=λp hp=>by
  unfold oU za jP at ho;simp only[Bool.and_eq_true,decide_eq_true_eq]at ho;obtain⟨i,hi,rfl⟩:=List.getElem_of_mem hp;have:=List.all_eq_true.1 ho.2.2.2.2.2.2 i (List.mem_range.2 hi);unfold wP at this;rw[List.getElem?_eq_getElem hi]at this;simp only[Bool.and_eq_true]at this;exact this.1.1
 obtain⟨src,dst,seq,lo,hi,rows,aW⟩:=x;have hrows:∀x∈rows,x.b:=h.rows;have Pf:∀x∈aW,x.b:=h.aW;have l1:rows.length<=255:=sm.1;have l2:aW.length<=255:=sm.2;obtain⟨src,rfl,hsrc⟩:=U8.nat (h.src:U8 src);obtain⟨dst,rfl,hdst⟩:=U8.nat (h.dst:U8 dst);obtain⟨seq,rfl,hseq⟩:=rC.nat (h.seq:rC seq);obtain⟨lo,rfl,hlo⟩:=iG.nat (h.lo:iG lo);obtain⟨hi,rfl,hhi⟩:=iG.nat (h.hi:iG hi);unfold Bn ES;dsimp only;rw[eB,eB,eB,eB,eB,eB];simp only[List.append_assoc];rw[pW hsrc,pW hdst,KF hseq,Ff hlo,Ff hhi,dQ (Bt (e:=rQ) (g:=id) (λx hx=>U3 (hrows x hx)) (λx=>by simp[rQ,b64,b32]) l1 _),dQ (Bt (e:=mQ) (g:=id) (λx hx=>U4 (Pf x hx) (hp x hx)) (λx=>by simp[mQ]) l2 _)];simp
theorem Pj{q:bQ}(h:oV q=true):q=qN:=by
 obtain⟨c,s,k,key,v,hi,to⟩:=q;unfold oV at h;simp at h;obtain⟨rfl,rfl,rfl,rfl,rfl,rfl,rfl⟩:=h;rfl
theorem Pk{r:Rg}(h:tO r=true):r=qh:=by
 obtain⟨src,dst,seq,lo,hi,rows,aW⟩:=r;unfold tO at h;simp at h;obtain⟨rfl,rfl,rfl,rfl,rfl,rfl,rfl⟩:=h;rfl
theorem DT{N:Nat}{c:MC}(h:jU N c)(ho:lh c=true)(l:List Nat):ni (dn (mR c)++l)=(c,l):=by
 obtain⟨k,q,r,p,s⟩:=c;have hq:q.b:=h.q;have hr:r.b:=h.r;obtain⟨k,rfl,hk⟩:=U8.nat (h.kind:U8 k);obtain⟨p,rfl,hp⟩:=U8.nat (h.peer:U8 p);obtain⟨s,rfl,hs⟩:=rC.nat (h.seq:rC s);unfold lh xZ at ho;unfold ni mR;dsimp only at ho |-;rw[eB,List.append_assoc,pW hk];by_cases k0:k=0
 ·subst k0
  rw[if_pos (show((0:Nat):Int)=0 from rfl)]at ho;simp only[Bool.and_eq_true,beq_iff_eq]at ho;obtain⟨h1,h2,h3,h4⟩:=ho;have h3:p=0:=by omega
  have h4:s=0:=by omega
  rw[Pj h1,Pk h2,h3,h4];rfl
 rw[if_neg (by omega)]at ho;by_cases k1:k=1
 ·subst k1
  rw[if_pos (show((1:Nat):Int)=1 from rfl)]at ho;simp only[Bool.and_eq_true,beq_iff_eq]at ho;obtain⟨h1,h2,h3,h4⟩:=ho;have h3:p=0:=by omega
  have h4:s=0:=by omega
  rw[if_pos rfl,if_pos (show((1:Nat):Int)=1 from rfl),dQ (KG hq h1 l),Pk h2,h3,h4];rfl
 rw[if_neg (by omega)]at ho;rw[if_neg k1,if_neg (show ¬(k:Int)=1 by omega)];by_cases k2:k=2
 ·subst k2
  rw[if_pos (show((2:Nat):Int)=2 from rfl)]at ho;simp only[Bool.and_eq_true,beq_iff_eq]at ho;obtain⟨h1,h2,h3,h4⟩:=ho;have h3:p=0:=by omega
  have h4:s=0:=by omega
  rw[if_pos rfl,if_pos (show((2:Nat):Int)=2 from rfl),dQ (Nq hr h1 l),Pj h2,h3,h4];rfl
 rw[if_neg (by omega)]at ho;rw[if_neg k2,if_neg (show ¬(k:Int)=2 by omega)];by_cases k3:k=3
 ·subst k3
  rw[if_pos (show((3:Nat):Int)=3 from rfl)]at ho;simp only[Bool.and_eq_true]at ho;obtain⟨h1,h2,h3⟩:=ho;rw[if_pos rfl,if_pos (show((3:Nat):Int)=3 from rfl),eB,List.append_assoc,pW hp,KF hs,Pj h2,Pk h3]
 rw[if_neg (by omega)]at ho;cases ho
theorem rY(n i:Nat)(l:List Nat):iA (dn (eZ n i)++l)=(⟨n%4294967296,i%256⟩,l):=by
 unfold iA eZ;rw[eB,List.append_assoc,Np,Wp]
theorem RO{N:Nat}{v:MV}(h:jU N v.c)(ho:lh v.c=true)(l:List Nat):nL (dn (kK v)++l)=(⟨v.slot%4294967296,⟨v.b.n%4294967296,v.b.id%256⟩,v.c⟩,l):=by
 unfold nL kK;rw[eB,eB,List.append_assoc,List.append_assoc,Np,dQ (rY _ _ _),dQ (DT h ho l)]
end
