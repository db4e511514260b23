/- The letter of what a log makes of a shard, filled in. -/
import Derived.Test.YtignemioillaiaaGreatG49
import Derived.ProofKit
import Derived.Deep.Slices
import Derived.Deep.Strs
import Derived.SizedLaws
import Derived.ChangeMaps5
import Derived.ClaimOpenTies
namespace Go.Proofs.YtignemioillaiaaGreat
set_option maxHeartbeats 8000000
set_option maxRecDepth 100000
section
open Go Go.Conc
def qK (N:Nat):aT:=⟨N,tC,tu,JM,oV,dL N,lU N⟩
section
variable {N k:Nat} {s:St} {c:MC}
theorem XP {m:List Pc} (h:kX m=true):m.length<=1000:=by
 unfold kX at h;simp only [Bool.and_eq_true,decide_eq_true_eq] at h;exact h.1.1.2
theorem dL.b2 (h:dL N k s):Dr s:=by
 have:=h.Ba;exact ⟨by have:=h.t;omega,by have:=h.d;omega,λ o ho=>by
  obtain ⟨a,b,c,_⟩:=h.o o ho;exact ⟨by omega,by omega,by omega⟩⟩
theorem dL.ss (h:dL N k s):ZG s:=by
 have:=h.Ba;have:=h.ok.ol;have:=h.ok.il;have:=h.ok.n4;exact ⟨by have:=h.t;omega,by have:=h.d;omega,XP h.ok.Cq,by omega,by omega,λ o ho=>by
  obtain ⟨a,b,c,d⟩:=h.o o ho;exact ⟨by omega,λ r hr=>⟨by have:=(d r hr).2.rl;omega,by have:=(d r hr).2.dl;omega⟩⟩⟩
theorem VY (h:dL N k s) (hc:lU N c):U8 (tu s c).2.c:=by
 have z8:U8 0:=⟨Int.le_refl 0,by decide⟩;have hd:U8 (kM s c.q).c:=(VL h.tb hc.q).c;unfold tu;split
 ·unfold yO
  split
  ·exact z8
  split
  ·exact hc.q.c
  split
  ·split
   ·rename_i x hx
    split
    ·exact hd
    ·split
     ·exact (h.db x (List.mem_of_getElem? hx)).c
     ·exact hc.q.c
   ·exact z8
  ·exact hd
 ·split
  ·exact z8
  ·split <;> exact z8
theorem aaF (s:St) (q:bQ):(sN s q).n=s.n/\(sN s q).g=s.g:=by
 unfold sN;split
 ·exact ⟨rfl,rfl⟩
 split
 ·exact ⟨rfl,rfl⟩
 split <;> exact ⟨rfl,rfl⟩
theorem abC (s:St) (c:MC):(tu s c).1.n=s.n/\(tu s c).1.g=s.g:=by
 unfold tu;split
 ·unfold yO
  split
  ·exact ⟨rfl,rfl⟩
  split
  ·exact ⟨rfl,rfl⟩
  split
  ·split
   ·split
    ·exact aaF _ _
    ·split <;> exact ⟨rfl,rfl⟩
   ·exact ⟨rfl,rfl⟩
  ·exact aaF _ _
 split
 ·unfold Dm
  split <;> exact ⟨rfl,rfl⟩
 split
 ·unfold Dn
  split <;> exact ⟨rfl,rfl⟩
 ·exact ⟨rfl,rfl⟩
theorem Bh:U8 0:=⟨Int.le_refl 0,by decide⟩
theorem Kt:qM 0:=⟨Int.le_refl 0,by decide⟩
theorem y7:iE 0:=⟨Int.le_refl 0,by decide⟩
theorem OZ:qi.b:=⟨Bh,Kt,Bh,y7,y7,y7,Bh⟩
theorem O0:pG.b:=⟨Bh,Bh,Kt,y7,y7,nofun,nofun,Nat.zero_le _,Nat.zero_le _⟩
theorem lU.zero (N:Nat):lU N ky:=⟨Bh,OZ,O0,Bh,Kt,nofun,nofun⟩
theorem lU.recv {r:Rg} (h:r.b) (hs:r.src<N):lU N (oI r):=⟨⟨by show (0:Int)<=2;decide,by show (2:Int)<256;decide⟩,OZ,h,Bh,Kt,λ _=>hs,λ e=>absurd (show (2:Int)=1 from e) (by decide)⟩
theorem lU.aec {p q:Int} (hp:U8 p) (hq:qM q):lU N (tq p q):=⟨⟨by show (0:Int)<=3;decide,by show (3:Int)<256;decide⟩,OZ,O0,hp,hq,λ e=>absurd (show (3:Int)=2 from e) (by decide),λ e=>absurd (show (3:Int)=1 from e) (by decide)⟩
theorem lU.asks {q:bQ} (h:q.b) (ho:kK q=true):lU N (gK q):=⟨⟨by show (0:Int)<=1;decide,by show (1:Int)<256;decide⟩,h,O0,Bh,Kt,λ e=>absurd (show (1:Int)=2 from e) (by decide),λ _=>ho⟩
end
theorem XQ {g N:Nat} (hg:g<N) (hN:N<=4):dL N 0 (JM g N):=by
 refine ⟨by decide,⟨by show (0:Int)<=g;omega,by show (g:Int)<N;omega,by show (N:Int)<=4;omega,List.Pairwise.nil,List.Pairwise.nil,(by decide:kX [⟨0,0⟩]=true),⟨rfl,by decide,by decide,trivial⟩,by show ((List.replicate N _).length:Int)=_;rw [List.length_replicate];rfl,by show ((List.replicate N _).length:Int)=_;rw [List.length_replicate];rfl⟩,rfl,Nat.le_refl 0,nofun,Nat.le_refl 0,nofun,λ o ho=>?_,λ x hx=>?_⟩
 ·rw [(List.mem_replicate.1 ho).2]
  exact ⟨by decide,by decide,by decide,nofun⟩
 ·rw [(List.mem_replicate.1 hx).2]
  exact ⟨by decide,by decide⟩
theorem Rq (N:Nat):bK (qK N) where
 mG:=λ w v m h=>ag.mono' (yV h) λ v' w' ⟨e,g⟩=>⟨⟨_,e⟩,g⟩
 call:=λ w s c vT vM vD vO vI cv h hg hc hcc=>by
  have hg:dL N _ s:=hg;have hcc:lU N c:=hcc;have:=hg.Ba;have hq:=hcc.q;have hr:=hcc.r;exact Un h hg.ok hg.b2 hg.ss (λ x hx=>by have:=hg.i x hx;omega) hc ⟨⟨hq.key.1,by have:=hq.key.2;omega⟩,⟨hq.hi.1,by have:=hq.hi.2;omega⟩,hq.to.1⟩ ⟨hr.src.1,hr.lo.1,by have:=hr.hi.2;omega⟩ hcc.peer.1
 Ii:=λ s c hk h hc=>dL.app h hk hc
 rep:=λ s c h hc=>(VY h hc).1
 src:=λ s c h hc h2=>by
  have h:dL N _ s:=h;have hc:lU N c:=hc;have h3:=hc.src h2;have h4:=hc.r.src.1;have h5:=h.ok.il;have h6:=h.n;exact ⟨h4,by omega⟩
 Ju:=lU.zero N
 parse:=Uu
 Y6:=λ w g n hg hn=>Uo w hg hn
 Ij:=λ g n e hg hn=>by
  have e:n=N:=e;subst e;exact XQ hg hn
 dl:=λ s h=>by
  have h:dL N _ s:=h;have:=h.Ba;have:=h.d;omega
 ol:=λ s h=>by
  have h:dL N _ s:=h;have:=h.ok.ol;have:=h.ok.n4;omega
 L8:=λ s h i x hx=>by
  have h:dL N _ s:=h;exact (h.i x (List.mem_of_getElem? hx)).1
theorem XT (N:Nat):Rp (qK N) where
 sb:=λ s h=>by
  have h:dL N _ s:=h;have h1:=h.ss;have h2:=h.b2;exact ⟨by have:=h1.t;omega,by have:=h1.m;omega,by have:=h1.d;omega,by have:=h1.o;omega,by have:=h1.i;omega,λ o ho=>⟨by have:=(h1.q o ho).1;omega,(h1.q o ho).2⟩⟩
theorem Rs (l:List Int):(uK l).size=l.length:=by
 rw [<- QB,FV];simp [dn]
theorem Rt {q:bQ} (h:kK q=true):eX (nI q)=true:=by
 unfold eX;rw [if_pos (show (nI q).kind=1 from rfl),Bool.and_eq_true];exact ⟨h,by rfl⟩
theorem Ru (N:Nat):rR (qK N) where
 mask:=λ w q h=>by
  have h:lU N (gK q):=h;have e:eX (nI q)=true:=Rt (h.ask rfl);have:=yV (w:=w) (m:=nI q) ⟨_,_,_,_,_,rfl,aM.zero w,bW.zero w,aM.zero w⟩;rw [if_pos e] at this;exact this
 small:=λ q h=>by
  show (tC _).size<=_;unfold tC;split
  ·rw [Rs]
   have:=JA q;show ([(1:Int)]++uV q).length<=1000;simp only [List.length_append,List.length_singleton];omega
  ·exact Nat.zero_le _
/- What is read is bounded. -/
theorem qL {β:Type} {k:Nat} {l:List Nat} {f:Nat->List Nat->β} {P:β->Prop} (hl:∀ x∈l,x<256) (h:∀ x l',x<256 ^ k->(∀ y∈l',y<256)->P (f x l')):P (nx k l f):=h _ _ (EH hl) (TU hl)
theorem n8 {x:Nat} (h:x<256 ^ 1):U8 x:=⟨by omega,by omega⟩
theorem n32 {x:Nat} (h:x<256 ^ 4):qM x:=⟨by omega,by omega⟩
theorem n64 {x:Nat} (h:x<256 ^ 8):iE x:=⟨by omega,by omega⟩
theorem abD {l:List Nat} (hl:∀ x∈l,x<256):(qC l).1.b:=by
 unfold qC;refine qL (P:=λ z:bQ×List Nat=>z.1.b) hl λ c l hc hl=>qL (P:=λ z:bQ×List Nat=>z.1.b) hl λ s l hs hl=>qL (P:=λ z:bQ×List Nat=>z.1.b) hl λ k l hk hl=>qL (P:=λ z:bQ×List Nat=>z.1.b) hl λ key l hkey hl=>?_
 split
 ·exact qL (P:=λ z:bQ×List Nat=>z.1.b) hl λ v l hv hl=>⟨n8 hc,n32 hs,n8 hk,n64 hkey,n64 hv,y7,Bh⟩
 split
 ·exact qL (P:=λ z:bQ×List Nat=>z.1.b) hl λ hi l hhi hl=>qL (P:=λ z:bQ×List Nat=>z.1.b) hl λ to l hto hl=>⟨n8 hc,n32 hs,n8 hk,n64 hkey,y7,n64 hhi,n8 hto⟩
 ·exact ⟨n8 hc,n32 hs,n8 hk,n64 hkey,y7,y7,Bh⟩
theorem abE {l:List Nat} (hl:∀ x∈l,x<256):(iq l).1.n<=4294967295:=by
 unfold iq;refine qL (P:=λ z:bF×List Nat=>z.1.n<=4294967295) hl λ n l hn hl=>?_
 show n<=4294967295;omega
theorem abF {l:List Nat} (hl:∀ x∈l,x<256):(dO l).1.b.n<=4294967295/\((dO l).1.kind=1->(dO l).1.q.b):=by
 unfold dO;refine qL (P:=λ z:MM×List Nat=>z.1.b.n<=4294967295/\(z.1.kind=1->z.1.q.b)) hl λ k l hk hl=>?_
 by_cases h:k=1
 ·rw [if_pos h]
  exact ⟨Nat.zero_le _,λ _=>abD hl⟩
 rw [if_neg h];have hb:=abE hl;have no:(aQ (k:Int)).kind=1->False:=λ e=>h (by have:(k:Int)=1:=e;omega)
 split
 ·exact ⟨Nat.zero_le _,λ e=>(no e).elim⟩
 split
 ·exact ⟨hb,λ e=>(no e).elim⟩
 split
 ·exact ⟨hb,λ e=>(no e).elim⟩
 split
 ·exact ⟨hb,λ e=>(no e).elim⟩
 split
 ·exact ⟨hb,λ e=>(no e).elim⟩
 split
 ·exact ⟨hb,λ e=>(no e).elim⟩
 split
 ·exact ⟨Nat.zero_le _,λ e=>(no e).elim⟩
 split
 ·exact ⟨Nat.zero_le _,λ e=>(no e).elim⟩
 split
 ·exact ⟨Nat.zero_le _,λ e=>(no e).elim⟩
 ·exact ⟨Nat.zero_le _,λ e=>(no e).elim⟩
theorem y9 {d:ByteArray} {m:MM} (h:oV d=some m):eX m=true/\(dO (dl d)).1=m:=by
 unfold oV at h;split at h
 ·rename_i c
  injection h with h;subst h;exact ⟨c.1,rfl⟩
 ·cases h
def gT (k:Nat) (l:List Nat):MM×List Nat :=
 if k=1 then rn qC l λ q l=>({ aQ k with q:=q },l)
 else if k=2 then rn lu l λ p l=>({ aQ k with p:=p },l)
 else if k=3 then rn iq l λ b l=>({ aQ k with b:=b },l)
 else if k=5 then rn iq l λ b l=>({ aQ k with b:=b },l)
 else if k=4 then rn iq l λ b l=>rn (jl nu) l λ vs l=>({ aQ k with b:=b,vs:=vs },l)
 else if k=6 then rn iq l λ b l=>nx 4 l λ s l=>rn mK l λ c l=>({ aQ k with b:=b,s:=s,c:=c },l)
 else if k=7 then rn iq l λ b l=>nx 4 l λ s l=>({ aQ k with b:=b,s:=s },l)
 else if k=8 then nx 4 l λ s l=>rn mK l λ c l=>({ aQ k with s:=s,c:=c },l)
 else if k=9 then rn AZ l λ r l=>({ aQ k with r:=r },l)
 else if k=10 then nx 1 l λ p l=>nx 4 l λ s l=>({ aQ k with peer:=p,seq:=s },l)
 else (aQ k,l)
theorem jR {k:Nat} (hk:k<256) (a:List Int):dO (dn ([(k:Int)]++a))=gT k (dn a):=by
 rw [eB];exact oW (f:=gT) hk
theorem VZ (l:List Nat):gT 2 l=(rn lu l λ p l=>({ aQ ((2:Nat):Int) with p:=p },l)):=rfl
theorem abG (l:List Nat):gT 3 l=(rn iq l λ b l=>({ aQ ((3:Nat):Int) with b:=b },l)):=rfl
theorem abH (l:List Nat):gT 5 l=(rn iq l λ b l=>({ aQ ((5:Nat):Int) with b:=b },l)):=rfl
theorem abI (l:List Nat):gT 4 l=(rn iq l λ b l=>rn (jl nu) l λ vs l=>({ aQ ((4:Nat):Int) with b:=b,vs:=vs },l)):=rfl
theorem abJ (l:List Nat):gT 6 l=(rn iq l λ b l=>nx 4 l λ s l=>rn mK l λ c l=>({ aQ ((6:Nat):Int) with b:=b,s:=s,c:=c },l)):=rfl
theorem abK (l:List Nat):gT 7 l=(rn iq l λ b l=>nx 4 l λ s l=>({ aQ ((7:Nat):Int) with b:=b,s:=s },l)):=rfl
theorem abL (l:List Nat):gT 8 l=(nx 4 l λ s l=>rn mK l λ c l=>({ aQ ((8:Nat):Int) with s:=s,c:=c },l)):=rfl
theorem V3 (l:List Nat):gT 9 l=(rn AZ l λ r l=>({ aQ ((9:Nat):Int) with r:=r },l)):=rfl
theorem Rv (l:List Nat):gT 10 l=(nx 1 l λ p l=>nx 4 l λ s l=>({ aQ ((10:Nat):Int) with peer:=p,seq:=s },l)):=rfl
theorem aed {m:MM} (h:eX m=true) (e:m.kind=4):mZ m.vs=true:=by
 unfold eX at h;rw [if_neg (by omega),if_neg (by omega),if_neg (by omega),if_neg (by omega),if_pos e,Bool.and_eq_true] at h;exact h.1
theorem aee {m:MM} (h:eX m=true) (e:m.kind=6):kQ m.c=true:=by
 unfold eX at h;rw [if_neg (by omega),if_neg (by omega),if_neg (by omega),if_neg (by omega),if_neg (by omega),if_pos e,Bool.and_eq_true] at h;exact h.1
theorem aef {m:MM} (h:eX m=true) (e:m.kind=8):kQ m.c=true:=by
 unfold eX at h;rw [if_neg (by omega),if_neg (by omega),if_neg (by omega),if_neg (by omega),if_neg (by omega),if_neg (by omega),if_neg (by omega),if_pos e,Bool.and_eq_true] at h;exact h.1
theorem aeg {m:MM} (h:eX m=true) (e:m.kind=9):oh m.r=true:=by
 unfold eX at h;rw [if_neg (by omega),if_neg (by omega),if_neg (by omega),if_neg (by omega),if_neg (by omega),if_neg (by omega),if_neg (by omega),if_neg (by omega),if_pos e,Bool.and_eq_true] at h;exact h.1
theorem sU (a:List Int):dn a=dn a++[]:=(List.append_nil _).symm
theorem aaG {l:List MV} (h:mZ l=true):∀ v∈l,kQ v.c=true:=λ v hv=>by
 unfold mZ jI at h;simp only [Bool.and_eq_true,decide_eq_true_eq] at h;obtain ⟨i,hi,rfl⟩:=List.getElem_of_mem hv;have:=List.all_eq_true.1 h.2 i (List.mem_range.2 hi);unfold wz at this;rw [List.getElem?_eq_getElem hi] at this;simp only [Bool.and_eq_true] at this;exact this.1
theorem xR (n:Nat):n%4294967296<=4294967295:=by omega
def nb (b:bF):bF:=⟨b.n%4294967296,b.id%256⟩
def nv (v:MV):MV:=⟨v.slot%4294967296,nb v.b,v.c⟩
def Fe (m:MM):MM :=
 if m.kind=3 then { aQ 3 with b:=nb m.b }
 else if m.kind=5 then { aQ 5 with b:=nb m.b }
 else if m.kind=4 then { aQ 4 with b:=nb m.b,vs:=m.vs.map nv }
 else if m.kind=6 then { aQ 6 with b:=nb m.b,s:=m.s%4294967296,c:=m.c }
 else if m.kind=7 then { aQ 7 with b:=nb m.b,s:=m.s%4294967296 }
 else if m.kind=8 then { aQ 8 with s:=m.s%4294967296,c:=m.c }
 else if m.kind=9 then { aQ 9 with r:=m.r }
 else { aQ 10 with peer:=m.peer,seq:=m.seq }
theorem Rw {N n:Nat} {m m':MM} (h:MG (qK N) n m) (hd:oV (tC m)=some m'):m.kind=2/\(∃ p,m'={ aQ 2 with p:=p })\/m'=Fe m/\3<=m.kind/\m.kind<=10:=by
 obtain ⟨ok',e⟩:=y9 hd;unfold tC at e;split at e
 case isFalse =>
  subst e;exact absurd ok' (by decide)
 rename_i ok;obtain ⟨_,k1,k10⟩:=EP ok;have kn:=h.k1;rw [FV] at e;unfold kI at e;obtain ⟨kd,q,p,b,s,c,vs,r,peer,seq⟩:=m;have k1:1<=kd:=k1;have k10:kd<=10:=k10;have kn:kd≠1:=kn;rcases (by omega:kd=2\/kd=3\/kd=4\/kd=5\/kd=6\/kd=7\/kd=8\/kd=9\/kd=10) with rfl | rfl | rfl | rfl | rfl | rfl | rfl | rfl | rfl
 ·have e:(dO (dn ([((2:Nat):Int)]++mi p))).1=m':=e
  rw [jR (by decide)] at e;rw [VZ] at e;subst e;exact .inl ⟨rfl,_,rfl⟩
 ·have e:(dO (dn ([((3:Nat):Int)]++eU b.n b.id))).1=m':=e
  rw [jR (by decide)] at e;have e2:gT 3 (dn (eU b.n b.id))=({ aQ ((3:Nat):Int) with b:=⟨b.n%4294967296,b.id%256⟩ },[]):=by
   rw [sU];rw [abG,dW (ry b.n b.id [])]
  rw [e2] at e;subst e;exact .inr ⟨rfl,by simp,by simp⟩
 ·have e:(dO (dn ([((4:Nat):Int)]++(eU b.n b.id++([(vs.length:Int)]++(vs.map kC).flatten))))).1=m':=e
  rw [jR (by decide)] at e;have ov:mZ vs=true:=by
   exact aed ok rfl
  obtain ⟨hv,hl⟩:=h.vs rfl;have e2:gT 4 (dn (eU b.n b.id++([(vs.length:Int)]++(vs.map kC).flatten)))=({ aQ ((4:Nat):Int) with b:=⟨b.n%4294967296,b.id%256⟩,vs:=vs.map λ v=>⟨v.slot%4294967296,⟨v.b.n%4294967296,v.b.id%256⟩,v.c⟩ },[]):=by
   rw [eB,sU ([(vs.length:Int)]++_)];rw [abI,dW (ry b.n b.id _)];exact dW (Bc (e:=kC) (g:=λ v=>⟨v.slot%4294967296,⟨v.b.n%4294967296,v.b.id%256⟩,v.c⟩) (λ v hv'=>Q9 (hv v hv').1 (aaG ov v hv')) (λ v=>by simp [kC,b32]) (Nat.le_trans hl (by decide)) []) _
  rw [e2] at e;subst e;exact .inr ⟨rfl,by simp,by simp⟩
 ·have e:(dO (dn ([((5:Nat):Int)]++eU b.n b.id))).1=m':=e
  rw [jR (by decide)] at e;have e2:gT 5 (dn (eU b.n b.id))=({ aQ ((5:Nat):Int) with b:=⟨b.n%4294967296,b.id%256⟩ },[]):=by
   rw [sU];rw [abH,dW (ry b.n b.id [])]
  rw [e2] at e;subst e;exact .inr ⟨rfl,by simp,by simp⟩
 ·have e:(dO (dn ([((6:Nat):Int)]++(eU b.n b.id++b32 s++mo c)))).1=m':=e
  rw [jR (by decide)] at e;have oc:kQ c=true:=by
   exact aee ok rfl
  obtain ⟨hc,hs⟩:=h.acc rfl;have e2:gT 6 (dn (eU b.n b.id++b32 s++mo c))=({ aQ ((6:Nat):Int) with b:=⟨b.n%4294967296,b.id%256⟩,s:=s%4294967296,c:=c },[]):=by
   rw [eB,eB,sU (mo c),List.append_assoc];rw [abJ,dW (ry b.n b.id _),MU,dW (Du hc oc [])]
  rw [e2] at e;subst e;exact .inr ⟨rfl,by simp,by simp⟩
 ·have e:(dO (dn ([((7:Nat):Int)]++(eU b.n b.id++b32 s)))).1=m':=e
  rw [jR (by decide)] at e;have hs:=h.pO rfl;have e2:gT 7 (dn (eU b.n b.id++b32 s))=({ aQ ((7:Nat):Int) with b:=⟨b.n%4294967296,b.id%256⟩,s:=s%4294967296 },[]):=by
   rw [eB,sU (b32 s)];rw [abK,dW (ry b.n b.id _),MU]
  rw [e2] at e;subst e;exact .inr ⟨rfl,by simp,by simp⟩
 ·have e:(dO (dn ([((8:Nat):Int)]++(b32 s++mo c)))).1=m':=e
  rw [jR (by decide)] at e;have oc:kQ c=true:=by
   exact aef ok rfl
  obtain ⟨hc,hs⟩:=h.dec rfl;have e2:gT 8 (dn (b32 s++mo c))=({ aQ ((8:Nat):Int) with s:=s%4294967296,c:=c },[]):=by
   rw [eB,sU (mo c)];rw [abL,MU,dW (Du hc oc [])]
  rw [e2] at e;subst e;exact .inr ⟨rfl,by simp,by simp⟩
 ·have e:(dO (dn ([((9:Nat):Int)]++Ck r))).1=m':=e
  rw [jR (by decide)] at e;have orr:oh r=true:=by
   exact aeg ok rfl
  have hm:=h.qB rfl;have hg:lU N (oI r):=hm.2.2.2;have e2:gT 9 (dn (Ck r))=({ aQ ((9:Nat):Int) with r:=r },[]):=by
   rw [sU];rw [V3,dW (MW (x:=r) hg.r orr [])]
  rw [e2] at e;subst e;exact .inr ⟨rfl,by simp,by simp⟩
 ·have e:(dO (dn ([((10:Nat):Int)]++([peer]++b32 seq)))).1=m':=e
  rw [jR (by decide)] at e;have hm:=h.lQ rfl;have hg:lU N (tq peer seq):=hm.2.2;obtain ⟨x,ex,hx⟩:=U8.nat (x:=peer) hg.peer;obtain ⟨y,ey,hy⟩:=qM.nat (x:=seq) hg.seq;have e2:gT 10 (dn ([peer]++b32 seq))=({ aQ ((10:Nat):Int) with peer:=peer,seq:=seq },[]):=by
   rw [ex,ey,eB,sU (b32 _)];rw [Rv,oW hx,Kc hy]
  rw [e2] at e;subst e;exact .inr ⟨rfl,by simp,by simp⟩
theorem UI {N n:Nat} {m m':MM} (h:MG (qK N) n m) (hd:oV (tC m)=some m'):MG (qK N) n m':=by
 rcases Rw h hd with ⟨_,p,rfl⟩ | ⟨rfl,k3,k10⟩
 ·exact .tell p
 ·obtain ⟨kd,q,p,b,s,c,vs,r,peer,seq⟩:=m
  unfold Fe;dsimp only;split
  ·exact .fC (.inl rfl) (xR _)
  split
  ·exact .fC (.inr rfl) (xR _)
  split
  ·rename_i e
   obtain ⟨hv,hl⟩:=h.vs e;exact .promise (xR _) (λ v hv'=>by obtain ⟨y,hy,rfl⟩:=List.mem_map.1 hv';exact ⟨(hv y hy).1,Nat.lt_of_le_of_lt (Nat.mod_le _ _) (hv y hy).2⟩) (by rw [List.length_map];exact hl)
  split
  ·rename_i e;exact .accept (xR _) (Nat.lt_of_le_of_lt (Nat.mod_le _ _) (h.acc e).2) (h.acc e).1
  split
  ·rename_i e;exact .accepted (xR _) (Nat.lt_of_le_of_lt (Nat.mod_le _ _) (h.pO e))
  split
  ·rename_i e;exact .decide (Nat.lt_of_le_of_lt (Nat.mod_le _ _) (h.dec e).2) (h.dec e).1
  split
  ·rename_i e;exact .move (h.qB e)
  ·have k3:3<=kd:=k3
   have k10:kd<=10:=k10;exact .Vk (h.lQ (show kd=10 by omega))
theorem Rx (N:Nat):gL (qK N) where
 lens:=λ s h=>by
  have h:dL N _ s:=h;have:=h.ok.il;have:=h.ok.ol;exact ⟨by omega,by omega,h.ok.n4⟩
 stay:=λ s c _ _=>abC s c
 Zp:=λ g n _ _=>⟨rfl,rfl⟩
 lane:=λ s h o ho r hr=>by
  have h:dL N _ s:=h;obtain ⟨h1,h2⟩:=(h.o o ho).2.2.2 r hr;exact ⟨h1,by have:=h2.seq.2;omega,lU.recv h2 (by have:=h.ok.gn;have:=h.n;omega)⟩
 L8:=λ s h x hx=>by
  have h:dL N _ s:=h;have:=h.i x hx;have:=h.Ba;omega
 Zq:=λ p s h1 h2 h3 h4=>lU.aec ⟨h1,by omega⟩ ⟨h3,by omega⟩
 ask:=λ d m h=>by
  obtain ⟨h1,h2⟩:=y9 h;have:=abF (Im d);rw [h2] at this;refine ⟨this.1,λ e=>lU.asks (this.2 e) ?_⟩;unfold eX at h1;rw [if_pos e,Bool.and_eq_true] at h1;exact h1.1
 kind:=λ d m h=>(EP (y9 h).1).2
 rl:=λ c h=>by
  have h:lU N c:=h;exact ⟨h.r.rl,h.r.dl⟩
 rc:=λ s c h hc=>(VY h hc).2
 back:=λ n m m' h hd=>UI h hd
theorem XU:Fb (qK 1) where
 gc:=lU.asks ⟨⟨by decide,by decide⟩,⟨by decide,by decide⟩,⟨by decide,by decide⟩,⟨by decide,by decide⟩,⟨by decide,by decide⟩,⟨by decide,by decide⟩,⟨by decide,by decide⟩⟩ (by decide)
 live:=λ f hf=>by
  rcases (by omega:f=0\/f=1\/f=2) with rfl | rfl | rfl
  ·kernel_rfl
  ·kernel_rfl
  ·kernel_rfl
 room:=λ f hf=>by
  refine Nat.le_of_ble_eq_true ?_;rcases (by omega:f=0\/f=1\/f=2) with rfl | rfl | rfl
  ·kernel_rfl
  ·kernel_rfl
  ·kernel_rfl
theorem xS {a b:Int} (h:0<=a):a.tmod b=a%b:=Int.tmod_eq_emod_of_nonneg h
theorem Ry {k:Int} (h:iE k):iE (jM k):=by
 unfold jM;rw [xS h.1];split
 ·exact ⟨by decide,by decide⟩
 ·exact ⟨by omega,by omega⟩
theorem M8 {q:bQ} (h:q.b):(cZ q).b/\kK (cZ q)=true:=by
 have hk:=Ry h.key;have hh:=Ry h.hi;have z64:iE 0:=⟨Int.le_refl 0,by decide⟩;have z8:U8 0:=⟨Int.le_refl 0,by decide⟩;have e1:q.c.tmod 3=q.c%3:=xS h.c.1;have e2:q.s.tmod 9=q.s%9:=xS h.s.1;have e3:q.k.tmod 4=q.k%4:=xS h.k.1;have e4:q.to.tmod 4=q.to%4:=xS h.to.1;unfold cZ;rw [e1,e2,e3,e4];have ha:kJ (q.c%3) (1+q.s%9)=true:=by
  unfold kJ;simp only [Bool.and_eq_true,decide_eq_true_eq];omega
 refine ⟨⟨⟨by dsimp only;omega,by dsimp only;omega⟩,⟨by dsimp only;omega,by dsimp only;omega⟩,⟨by dsimp only;omega,by dsimp only;omega⟩,hk,?_,?_,?_⟩,?_⟩
 ·dsimp only;split
  ·exact h.v
  ·exact z64
 ·dsimp only;split
  ·split
   ·exact hk
   ·exact hh
  ·exact z64
 ·dsimp only;split
  ·exact ⟨by omega,by omega⟩
  ·exact z8
 ·unfold kK
  dsimp only;rw [ha,Bool.true_and];rcases (by omega:q.k%4=0\/q.k%4=1\/q.k%4=2\/q.k%4=3) with e | e | e | e
  ·rw [e];rfl
  ·rw [e];rfl
  ·rw [e];rfl
  ·rw [e]
   show (decide (jM q.key<=if jM q.hi<jM q.key then jM q.key else jM q.hi) && (decide (q.to%4<4) && true))=true;simp only [Bool.and_eq_true,decide_eq_true_eq,Bool.and_true];refine ⟨?_,by omega⟩;split <;> omega
end
section
open Go.ChangeShapes Go.WideShapes Go.ChangeAt Go.RowKit
theorem Tryz.own:ownKnob Tryz.prog.godebug=none:=by kernel_rfl
theorem Tryz.laidOut:laidOutB Tryz.prog=true:=by kernel_rfl
theorem UJ {a:Addr} (h:a.spot=none) (n:Nat):a.add n=⟨a.block,a.off+n,none⟩:=by
 unfold Addr.add;split
 ·subst n;cases a;simp_all
 ·rfl
theorem Rz {w:World} {a:Addr} {u:Value} (h:w.cell? a=some u):a.spot=none:=by
 unfold World.cell? at h;split at h
 ·split at h
  ·cases h
  ·rename_i hs;simpa using hs
 ·cases h
section
variable {H:Type} {enc:TypeId×Value->H} {P:Program} {w:World}
theorem RA {α:Type} [Inhabited α] {t e:TypeId} {size fuel:Nat} {v:Value} {x:DataW H×List MemPlace} (f:α->List Value) (wf:α->Prop) (ht:P.underlying t=some (.slice e)) (hc:P.cellsOf e=size) (hpos:0<size)
 (hel:∀ n cs x,DataW.trod enc P w 0 (λ _=>true) true n e cs=some x->∃ a,cs=f a/\wf a) (h:DataW.trod enc P w 0 (λ _=>true) true fuel t [v]=some x) :
 ∃ (a:Option Addr) (len cap:Nat) (xs:List α),v=.slice a len cap/\X3 w.heap.size w ⟨a,len,cap⟩ size (xs.map f)/\(a=none->cap=0)/\∀ (i:Nat) (x:α),xs[i]? = some x->wf x:=by
 rcases Go.Deep.open_slice ht h with ⟨h1,_⟩ | ⟨a,len,cap,m,n,D,Pl,h1,_,hl,hm,hmm,_,hx⟩
 ·simp only [List.cons.injEq,and_true] at h1
  subst h1;exact ⟨none,0,0,[],rfl,⟨rfl,Nat.le_refl _,Nat.zero_le _,λ h=>absurd h (Nat.lt_irrefl 0)⟩,λ _=>rfl,by simp⟩
 ·simp only [List.cons.injEq,and_true] at h1
  subst h1;have hmc:m=cap:=by simpa using hmm
  subst hmc;have hex:∀ i,i<len->∃ y:α,wf y/\w.cells? 0 (a.add (i*size)) size=some (f y):=λ i hi=>by
   obtain ⟨cs,h2,h3⟩:=hx i (by omega);obtain ⟨y,rfl,hy⟩:=hel _ _ _ h3;rw [hc] at h2;exact ⟨y,hy,h2⟩
  obtain ⟨g,hg⟩:=Go.Deep.choose_lt hex;refine ⟨some a,len,m,(List.range len).map g,rfl,⟨by simp,hl,hm,λ h0=>?_⟩,(by intro h;cases h),λ i x hi=>?_⟩
  ·have V4:0<len:=h0
   have hsp:a.spot=none:=by
    obtain ⟨_,h5,h6⟩:=World.cells?_some (hg 0 V4).2;have h7:=h6 0 hpos;have h8:a.add (0*size)=a:=by unfold Addr.add;simp
    have h9:a.add 0=a:=by unfold Addr.add;simp
    rw [h8,h9] at h7;have:∃ u,(f (g 0))[0]? = some u:=⟨(f (g 0))[0]'(by omega),by simp⟩;obtain ⟨u,hu⟩:=this;rw [hu] at h7;exact Rz h7
   refine ⟨a.block,a.off,by cases a;simp only at hsp;rw [hsp],?_,λ i y hy j u hu=>?_⟩
   ·have:=World.cells?_block (hg 0 V4).2 hpos
    have h8:a.add (0*size)=a:=by unfold Addr.add;simp
    rw [h8] at this;exact this
   ·simp only [List.map_map] at hy
    obtain ⟨hi,he⟩:=List.getElem?_eq_some_iff.1 hy;have hi':i<len:=by simpa using hi
    simp at he;subst he;obtain ⟨_,h5,h6⟩:=World.cells?_some (hg i hi').2;have hj:=(List.getElem?_eq_some_iff.1 hu).1;have h7:=h6 j (by omega);rw [hu,UJ hsp] at h7;unfold Addr.add at h7;split at h7
    ·subst j;exact h7
    ·exact h7
  ·obtain ⟨hi',he⟩:=List.getElem?_eq_some_iff.1 hi
   have hl':i<len:=by simpa using hi'
   simp at he;subst he;exact (hg i hl').1
end
theorem wf_u64 {n:Int} (h:(Lit.int .u64 n).wf=true):0<=n/\n<18446744073709551616:=by
 have h':IntKind.min .u64<=n/\n<=IntKind.max .u64:=by simpa [Lit.wf] using h
 have e1:IntKind.min .u64=0:=by decide
 have e2:IntKind.max .u64=18446744073709551615:=by decide
 omega
theorem wf_u8 {n:Int} (h:(Lit.int .u8 n).wf=true):0<=n/\n<256:=by
 have h':IntKind.min .u8<=n/\n<=IntKind.max .u8:=by simpa [Lit.wf] using h
 have e1:IntKind.min .u8=0:=by decide
 have e2:IntKind.max .u8=255:=by decide
 omega
theorem wf_u32 {n:Int} (h:(Lit.int .u32 n).wf=true):0<=n/\n<4294967296:=by
 have h':IntKind.min .u32<=n/\n<=IntKind.max .u32:=by simpa [Lit.wf] using h
 have e1:IntKind.min .u32=0:=by decide
 have e2:IntKind.max .u32=4294967295:=by decide
 omega
theorem RB {H:Type} {enc:TypeId×Value->H} {W:World} {base:Nat} {sp:Nat->Bool} {held:Bool} (b:Bool):DataW.Trod enc Tryz.prog W base sp held 4 (.bool b) (.lit (.bool b)) []:=⟨1,by simp [DataW.trod,Value.cells,Tryz.underlying4]⟩
end
section
open Go Go.ChangeShapes Go.WideShapes Go.ChangeAt Go.RowKit Go.Conc
theorem zx (l:List Value) (a n b:Nat) (h:a+n=b):l.drop a=(l.drop a).take n++l.drop b:=by
 subst h;rw [<- List.drop_drop];exact (List.take_append_drop n (l.drop a)).symm
instance:Inhabited Stp:=⟨⟨0,0,0,ByteArray.empty,⟨0,0,0,0,0,0,0⟩⟩⟩
section
variable {H:Type} {enc:TypeId×Value->H} {P:Program} {w:World}
theorem lenOf {t:TypeId} {fs:Array Field} {fuel:Nat} {cs:List Value} {x:DataW H×List MemPlace} (ht:P.underlying t=some (.struct fs)) (h:DataW.trod enc P w 0 (λ _=>true) true fuel t cs=some x):cs.length=P.cellsOf t:=by
 obtain ⟨xs,n,_,_,hl,_,_⟩:=DataW.trod_struct ht h;exact hl
theorem fieldAt {t:TypeId} {fs:Array Field} {fuel:Nat} {cs:List Value} {x:DataW H×List MemPlace} (ht:P.underlying t=some (.struct fs)) (h:DataW.trod enc P w 0 (λ _=>true) true fuel t cs=some x) (i:Nat) (f:Field) (hf:fs[i]? = some f) :
 ∃ y n,DataW.trod enc P w 0 (λ _=>true) true n f.type ((cs.drop f.offset).take (P.cellsOf f.type))=some y/\True:=by
 obtain ⟨xs,n,_,rfl,_,hl,hx⟩:=DataW.trod_struct ht h;have hi:i<xs.length:=by rw [hl];exact (Array.getElem?_eq_some_iff.1 hf).1
 have hy:xs[i]? = some xs[i]:=List.getElem?_eq_getElem hi;exact ⟨xs[i],n,(hx i f hf).trans hy,trivial⟩
end
theorem wf_i64 {n:Int} (h:(Lit.int .i64 n).wf=true):wH n:=by
 have h':IntKind.min .i64<=n/\n<=IntKind.max .i64:=by simpa [Lit.wf] using h
 have e1:IntKind.min .i64 = -9223372036854775808:=by decide
 have e2:IntKind.max .i64=9223372036854775807:=by decide
 unfold wH;omega
structure Stp.w (t:Stp):Prop where
 kind:wH t.kind
 a:wH t.a
 b:wH t.b
 q:t.q.b
theorem Stp.w.wf {t:Stp} (h:t.w) (N:Nat):t.wf (qK N):=⟨h.kind,h.a,h.b,h.q.s.1,h.q.k.1,lU.asks (M8 h.q).1 (M8 h.q).2⟩
section
variable {H:Type} {enc:TypeId×Value->H} {w:World}
theorem RD {n:Nat} {cs:List Value} {x:DataW H×List MemPlace} (h:DataW.trod enc Tryz.prog w 0 (λ _=>true) true n 50 cs=some x):∃ r:bQ,cs=r.cells/\r.b:=by
 have hl:=lenOf Tryz.underlying50 h;rw [(by kernel_rfl:Tryz.prog.cellsOf 50=7)] at hl;have hd:cs.drop 7=[]:=List.drop_of_length_le (by omega);obtain ⟨y0,n0,g0,u0⟩:=fieldAt Tryz.underlying50 h 0 _ rfl;replace g0:DataW.trod enc Tryz.prog w 0 (λ _=>true) true n0 5 ((cs.drop 0).take (Tryz.prog.cellsOf 5))=some y0:=g0;rw [(by kernel_rfl:Tryz.prog.cellsOf 5=1)] at g0;obtain ⟨a0,e0,_,w0⟩:=DataW.trod_int Tryz.underlying5 g0;have v0:=wf_u8 w0;obtain ⟨y1,n1,g1,u1⟩:=fieldAt Tryz.underlying50 h 1 _ rfl;replace g1:DataW.trod enc Tryz.prog w 0 (λ _=>true) true n1 47 ((cs.drop 1).take (Tryz.prog.cellsOf 47))=some y1:=g1;rw [(by kernel_rfl:Tryz.prog.cellsOf 47=1)] at g1;obtain ⟨a1,e1,_,w1⟩:=DataW.trod_int Tryz.underlying47 g1;have v1:=wf_u32 w1;obtain ⟨y2,n2,g2,u2⟩:=fieldAt Tryz.underlying50 h 2 _ rfl;replace g2:DataW.trod enc Tryz.prog w 0 (λ _=>true) true n2 5 ((cs.drop 2).take (Tryz.prog.cellsOf 5))=some y2:=g2;rw [(by kernel_rfl:Tryz.prog.cellsOf 5=1)] at g2;obtain ⟨a2,e2,_,w2⟩:=DataW.trod_int Tryz.underlying5 g2;have v2:=wf_u8 w2;obtain ⟨y3,n3,g3,u3⟩:=fieldAt Tryz.underlying50 h 3 _ rfl;replace g3:DataW.trod enc Tryz.prog w 0 (λ _=>true) true n3 48 ((cs.drop 3).take (Tryz.prog.cellsOf 48))=some y3:=g3;rw [(by kernel_rfl:Tryz.prog.cellsOf 48=1)] at g3;obtain ⟨a3,e3,_,w3⟩:=DataW.trod_int Tryz.underlying48 g3;have v3:=wf_u64 w3;obtain ⟨y4,n4,g4,u4⟩:=fieldAt Tryz.underlying50 h 4 _ rfl;replace g4:DataW.trod enc Tryz.prog w 0 (λ _=>true) true n4 48 ((cs.drop 4).take (Tryz.prog.cellsOf 48))=some y4:=g4;rw [(by kernel_rfl:Tryz.prog.cellsOf 48=1)] at g4;obtain ⟨a4,e4,_,w4⟩:=DataW.trod_int Tryz.underlying48 g4;have v4:=wf_u64 w4;obtain ⟨y5,n5,g5,u5⟩:=fieldAt Tryz.underlying50 h 5 _ rfl;replace g5:DataW.trod enc Tryz.prog w 0 (λ _=>true) true n5 48 ((cs.drop 5).take (Tryz.prog.cellsOf 48))=some y5:=g5;rw [(by kernel_rfl:Tryz.prog.cellsOf 48=1)] at g5;obtain ⟨a5,e5,_,w5⟩:=DataW.trod_int Tryz.underlying48 g5;have v5:=wf_u64 w5;obtain ⟨y6,n6,g6,u6⟩:=fieldAt Tryz.underlying50 h 6 _ rfl;replace g6:DataW.trod enc Tryz.prog w 0 (λ _=>true) true n6 5 ((cs.drop 6).take (Tryz.prog.cellsOf 5))=some y6:=g6;rw [(by kernel_rfl:Tryz.prog.cellsOf 5=1)] at g6;obtain ⟨a6,e6,_,w6⟩:=DataW.trod_int Tryz.underlying5 g6;have v6:=wf_u8 w6;have hcs:cs=[.int .u8 a0,.int .u32 a1,.int .u8 a2,.int .u64 a3,.int .u64 a4,.int .u64 a5,.int .u8 a6]:=by
  show cs.drop 0=_;rw [zx cs 0 1 1 rfl,e0,zx cs 1 1 2 rfl,e1,zx cs 2 1 3 rfl,e2,zx cs 3 1 4 rfl,e3,zx cs 4 1 5 rfl,e4,zx cs 5 1 6 rfl,e5,zx cs 6 1 7 rfl,e6,hd];rfl
 exact ⟨⟨a0,a1,a2,a3,a4,a5,a6⟩,hcs,⟨v0,v1,v2,v3,v4,v5,v6⟩⟩
theorem step_cells {n:Nat} {cs:List Value} {x:DataW H×List MemPlace} (h:DataW.trod enc Tryz.prog w 0 (λ _=>true) true n 158 cs=some x):∃ t:Stp,cs=t.cells/\t.w:=by
 have hl:=lenOf Tryz.underlying158 h;rw [(by kernel_rfl:Tryz.prog.cellsOf 158=11)] at hl;have hd:cs.drop 11=[]:=List.drop_of_length_le (by omega);obtain ⟨y0,n0,g0,u0⟩:=fieldAt Tryz.underlying158 h 0 _ rfl;replace g0:DataW.trod enc Tryz.prog w 0 (λ _=>true) true n0 3 ((cs.drop 0).take (Tryz.prog.cellsOf 3))=some y0:=g0;rw [(by kernel_rfl:Tryz.prog.cellsOf 3=1)] at g0;obtain ⟨a0,e0,_,w0⟩:=DataW.trod_int Tryz.underlying3 g0;have v0:=wf_i64 w0;obtain ⟨y1,n1,g1,u1⟩:=fieldAt Tryz.underlying158 h 1 _ rfl;replace g1:DataW.trod enc Tryz.prog w 0 (λ _=>true) true n1 3 ((cs.drop 1).take (Tryz.prog.cellsOf 3))=some y1:=g1;rw [(by kernel_rfl:Tryz.prog.cellsOf 3=1)] at g1;obtain ⟨a1,e1,_,w1⟩:=DataW.trod_int Tryz.underlying3 g1;have v1:=wf_i64 w1;obtain ⟨y2,n2,g2,u2⟩:=fieldAt Tryz.underlying158 h 2 _ rfl;replace g2:DataW.trod enc Tryz.prog w 0 (λ _=>true) true n2 3 ((cs.drop 2).take (Tryz.prog.cellsOf 3))=some y2:=g2;rw [(by kernel_rfl:Tryz.prog.cellsOf 3=1)] at g2;obtain ⟨a2,e2,_,w2⟩:=DataW.trod_int Tryz.underlying3 g2;have v2:=wf_i64 w2;obtain ⟨y3,n3,g3,u3⟩:=fieldAt Tryz.underlying158 h 3 _ rfl;replace g3:DataW.trod enc Tryz.prog w 0 (λ _=>true) true n3 9 ((cs.drop 3).take (Tryz.prog.cellsOf 9))=some y3:=g3;rw [(by kernel_rfl:Tryz.prog.cellsOf 9=1)] at g3;obtain ⟨a3,e3,_,w3⟩:=DataW.trod_string Tryz.underlying9 g3;obtain ⟨y4,n4,g4,u4⟩:=fieldAt Tryz.underlying158 h 4 _ rfl;replace g4:DataW.trod enc Tryz.prog w 0 (λ _=>true) true n4 50 ((cs.drop 4).take (Tryz.prog.cellsOf 50))=some y4:=g4;rw [(by kernel_rfl:Tryz.prog.cellsOf 50=7)] at g4;obtain ⟨r,e4,v4⟩:=RD g4;have hcs:cs=[.int .i64 a0,.int .i64 a1,.int .i64 a2,.string a3]++r.cells:=by
  show cs.drop 0=_;rw [zx cs 0 1 1 rfl,e0,zx cs 1 1 2 rfl,e1,zx cs 2 1 3 rfl,e2,zx cs 3 1 4 rfl,e3,zx cs 4 7 11 rfl,e4,hd];rfl
 exact ⟨⟨a0,a1,a2,a3,r⟩,hcs,⟨v0,v1,v2,v4⟩⟩
end
theorem Ku {n:Nat} {cs:List Value}:∀ {xs:List (List Value)} {off:Nat},(∀ x∈xs,x.length=n)->(∀ (i:Nat) (x:List Value),xs[i]? = some x->∀ (j:Nat) (u:Value),x[j]? = some u->cs[off+i*n+j]? = some u)->aL cs off (xs.length*n)=xs.flatten
 | [],off,_,_=>by simp [aL]
 | x::xs,off,hl,h=>by
  have hx:x.length=n:=hl x List.mem_cons_self;have ih:=Ku (n:=n) (cs:=cs) (xs:=xs) (off:=off+n) (λ y hy=>hl y (List.mem_cons_of_mem _ hy)) λ i y hy j u hu=>by
   have:=h (i+1) y (by simpa using hy) j u hu;rw [Nat.add_mul,Nat.one_mul] at this;rw [<- this];congr 1;omega
  have e:(cs.drop off).take n=x:=by
   refine List.ext_getElem? λ j=>?_
   rw [List.getElem?_take];by_cases hj:j<n
   ·rw [if_pos hj,List.getElem?_drop]
    have hu:x[j]? = some (x[j]'(by omega)):=List.getElem?_eq_getElem (by omega);rw [hu];have:=h 0 x rfl j _ hu;rwa [Nat.zero_mul,Nat.add_zero] at this
   ·rw [if_neg hj,List.getElem?_eq_none (by omega)]
  unfold aL at ih |-;rw [List.length_cons,Nat.add_mul,Nat.one_mul,Nat.add_comm,List.take_add,e,List.drop_drop,ih,List.flatten_cons]
theorem XV {W:World} {a:Option Addr} {len cap:Nat} {l:List Stp} (h:X3 W.heap.size W ⟨a,len,cap⟩ 11 (l.map Stp.cells)):len=l.length/\l.length<=9223372036854775807/\FzZ W 11 (.slice a l.length cap) l.length (l.map Stp.cells).flatten:=by
 have e1:len=l.length:=by have:=h.len;simpa using this
 have h2:len<=cap:=h.le;have h3:cap<=maxLen:=h.max;have e3:maxLen=9223372036854775807:=by decide
 have hlen:∀ x∈l.map Stp.cells,x.length=11:=λ x hx=>by
  obtain ⟨t,_,rfl⟩:=List.mem_map.1 hx;rfl
 refine ⟨e1,by omega,a,cap,rfl,by omega,?_,?_⟩
 ·have:∀ (xs:List (List Value)),(∀ x∈xs,x.length=11)->xs.flatten.length=xs.length*11:=λ xs=>by
   induction xs with
   | nil=>intro _;rfl
   | cons x xs ih =>
    intro hx;rw [List.flatten_cons,List.length_append,ih (λ y hy=>hx y (List.mem_cons_of_mem _ hy)),hx x List.mem_cons_self,List.length_cons];omega
  rw [this _ hlen,List.length_map]
 ·by_cases h0:l.length=0
  ·exact .inl h0
  ·obtain ⟨b,off,ha,hb,hc⟩:=h.at' (by show 0<len;omega)
   have ha:a=some ⟨b,off,none⟩:=ha;obtain ⟨t,ht⟩:∃ t,l[0]? = some t:=⟨l[0],by simp [show 0<l.length by omega]⟩;have hc0:=hc 0 t.cells (by rw [List.getElem?_map,ht];rfl) 0 (.int .i64 t.kind) rfl;cases ho:W.heap[b]? with
   | none=>simp [World.cell?,ho] at hc0
   | some o =>
    cases o with
    | cells cs ty z =>
     refine .inr ⟨b,off,cs,ty,z,ha,ho,?_⟩;have:=Ku (cs:=cs.toList) (xs:=l.map Stp.cells) (off:=off) hlen λ i x hx j u hu=>by
      have:=hc i x hx j u hu;rw [cell_of_row W b _ cs ty z ho] at this;rw [Array.getElem?_toList];exact this
     rwa [List.length_map] at this
    | _=>simp [World.cell?,ho] at hc0
end
end Go.Proofs.YtignemioillaiaaGreat
