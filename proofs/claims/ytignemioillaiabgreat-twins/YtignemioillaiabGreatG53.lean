/- The letter of what a log makes of a shard, filled in. -/
import Derived.Test.YtignemioillaiabGreatG52
import Derived.ProofKit
import Derived.Deep.Slices
import Derived.Deep.Strs
import Derived.SizedLaws
import Derived.ChangeMaps5
import Derived.ClaimOpenTies
namespace Go.Proofs.YtignemioillaiabGreat
set_option maxHeartbeats 8000000
set_option maxRecDepth 100000
section
open Go Go.Conc
def AP (N:Nat):bE:=⟨N,AA,sU,Jk,sV,dI N,lQ N⟩
section
variable {N k:Nat} {s:St} {c:MC}
theorem Xd {m:List Pc} (h:kX m=true):m.length≤1000:=by
 unfold kX at h;simp only [Bool.and_eq_true,decide_eq_true_eq] at h;exact h.1.1.2
theorem dI.b2 (h:dI N k s):CU s:=by
 have:=h.Ay;exact ⟨by have:=h.t;omega,by have:=h.d;omega,fun o ho=>by
  obtain ⟨a,b,c,_⟩:=h.o o ho;exact ⟨by omega,by omega,by omega⟩⟩
theorem dI.ss (h:dI N k s):Zb s:=by
 have:=h.Ay;have:=h.ok.ol;have:=h.ok.il;have:=h.ok.n4;exact ⟨by have:=h.t;omega,by have:=h.d;omega,Xd h.ok.BU,by omega,by omega,fun o ho=>by
  obtain ⟨a,b,c,d⟩:=h.o o ho;exact ⟨by omega,fun r hr=>⟨by have:=(d r hr).2.rl;omega,by have:=(d r hr).2.dl;omega⟩⟩⟩
theorem Vr (h:dI N k s) (hc:lQ N c):U8 (sU s c).2.c:=by
 have z8:U8 0:=⟨Int.le_refl 0,by decide⟩;have hd:U8 (kL s c.q).c:=(U9 h.tb hc.q).c;unfold sU;split
 ·unfold yA
  split
  ·exact z8
  split
  ·exact hc.q.c
  split
  ·split
   ·rename_i x hx
    split
    ·exact hd
    ·split
     ·exact (h.db x (List.mem_of_getElem? hx)).c
     ·exact hc.q.c
   ·exact z8
  ·exact hd
 ·split
  ·exact z8
  ·split <;> exact z8
theorem aah (s:St) (q:bH):(sG s q).n=s.n∧(sG s q).g=s.g:=by
 unfold sG;split
 ·exact ⟨rfl,rfl⟩
 split
 ·exact ⟨rfl,rfl⟩
 split <;> exact ⟨rfl,rfl⟩
theorem abf (s:St) (c:MC):(sU s c).1.n=s.n∧(sU s c).1.g=s.g:=by
 unfold sU;split
 ·unfold yA
  split
  ·exact ⟨rfl,rfl⟩
  split
  ·exact ⟨rfl,rfl⟩
  split
  ·split
   ·split
    ·exact aah _ _
    ·split <;> exact ⟨rfl,rfl⟩
   ·exact ⟨rfl,rfl⟩
  ·exact aah _ _
 split
 ·unfold CO
  split <;> exact ⟨rfl,rfl⟩
 split
 ·unfold CP
  split <;> exact ⟨rfl,rfl⟩
 ·exact ⟨rfl,rfl⟩
theorem AQ:U8 0:=⟨Int.le_refl 0,by decide⟩
theorem J3:qH 0:=⟨Int.le_refl 0,by decide⟩
theorem yM:gZ 0:=⟨Int.le_refl 0,by decide⟩
theorem OB:qb.b:=⟨AQ,J3,AQ,yM,yM,yM,AQ⟩
theorem OC:pE.b:=⟨AQ,AQ,J3,yM,yM,nofun,nofun,Nat.zero_le _,Nat.zero_le _⟩
theorem lQ.zero (N:Nat):lQ N kQ:=⟨AQ,OB,OC,AQ,J3,nofun,nofun⟩
theorem lQ.recv {r:Rg} (h:r.b) (hs:r.src<N):lQ N (oF r):=⟨⟨by show (0:Int)≤2;decide,by show (2:Int)<256;decide⟩,OB,h,AQ,J3,fun _=>hs,fun e=>absurd (show (2:Int)=1 from e) (by decide)⟩
theorem lQ.adR {p q:Int} (hp:U8 p) (hq:qH q):lQ N (sS p q):=⟨⟨by show (0:Int)≤3;decide,by show (3:Int)<256;decide⟩,OB,OC,hp,hq,fun e=>absurd (show (3:Int)=2 from e) (by decide),fun e=>absurd (show (3:Int)=1 from e) (by decide)⟩
theorem lQ.asks {q:bH} (h:q.b) (ho:kJ q=true):lQ N (bZ q):=⟨⟨by show (0:Int)≤1;decide,by show (1:Int)<256;decide⟩,h,OC,AQ,J3,fun e=>absurd (show (1:Int)=2 from e) (by decide),fun _=>ho⟩
end
theorem Xe {g N:Nat} (hg:g<N) (hN:N≤4):dI N 0 (Jk g N):=by
 refine ⟨by decide,⟨by show (0:Int)≤g;omega,by show (g:Int)<N;omega,by show (N:Int)≤4;omega,List.Pairwise.nil,List.Pairwise.nil,(by decide:kX [⟨0,0⟩]=true),⟨rfl,by decide,by decide,trivial⟩,by show ((List.replicate N _).length:Int)=_;rw [List.length_replicate];rfl,by show ((List.replicate N _).length:Int)=_;rw [List.length_replicate];rfl⟩,rfl,Nat.le_refl 0,nofun,Nat.le_refl 0,nofun,fun o ho=>?_,fun x hx=>?_⟩
 ·rw [(List.mem_replicate.1 ho).2]
  exact ⟨by decide,by decide,by decide,nofun⟩
 ·rw [(List.mem_replicate.1 hx).2]
  exact ⟨by decide,by decide⟩
theorem J4 (N:Nat):bW (AP N) where
 jd:=fun w v m h=>af.mono' (yH h) fun v' w' ⟨e,g⟩=>⟨⟨_,e⟩,g⟩
 call:=fun w s c vT vM vD vO vI cv h hg hc hcc=>by
  have hg:dI N _ s:=hg;have hcc:lQ N c:=hcc;have:=hg.Ay;have hq:=hcc.q;have hr:=hcc.r;exact TD h hg.ok hg.b2 hg.ss (fun x hx=>by have:=hg.i x hx;omega) hc ⟨⟨hq.key.1,by have:=hq.key.2;omega⟩,⟨hq.hi.1,by have:=hq.hi.2;omega⟩,hq.to.1⟩ ⟨hr.src.1,hr.lo.1,by have:=hr.hi.2;omega⟩ hcc.peer.1
 GZ:=fun s c hk h hc=>dI.app h hk hc
 rep:=fun s c h hc=>(Vr h hc).1
 src:=fun s c h hc h2=>by
  have h:dI N _ s:=h;have hc:lQ N c:=hc;have h3:=hc.src h2;have h4:=hc.r.src.1;have h5:=h.ok.il;have h6:=h.n;exact ⟨h4,by omega⟩
 IY:=lQ.zero N
 parse:=TJ
 beg:=fun w g n hg hn=>TE w hg hn
 NC:=fun g n e hg hn=>by
  have e:n=N:=e;subst e;exact Xe hg hn
 dl:=fun s h=>by
  have h:dI N _ s:=h;have:=h.Ay;have:=h.d;omega
 ol:=fun s h=>by
  have h:dI N _ s:=h;have:=h.ok.ol;have:=h.ok.n4;omega
 Lm:=fun s h i x hx=>by
  have h:dI N _ s:=h;exact (h.i x (List.mem_of_getElem? hx)).1
theorem Xf (N:Nat):QX (AP N) where
 sb:=fun s h=>by
  have h:dI N _ s:=h;have h1:=h.ss;have h2:=h.b2;exact ⟨by have:=h1.t;omega,by have:=h1.m;omega,by have:=h1.d;omega,by have:=h1.o;omega,by have:=h1.i;omega,fun o ho=>⟨by have:=(h1.q o ho).1;omega,(h1.q o ho).2⟩⟩
theorem Q0 (l:List Int):(uD l).size=l.length:=by
 rw [← Qd,Mj];simp [dn]
theorem Q3 {q:bH} (h:kJ q=true):eF (oI q)=true:=by
 unfold eF;rw [if_pos (show (oI q).kind=1 from rfl),Bool.and_eq_true];exact ⟨h,by rfl⟩
theorem J5 (N:Nat):wh (AP N) where
 mask:=fun w q h=>by
  have h:lQ N (bZ q):=h;have e:eF (oI q)=true:=Q3 (h.ask rfl);have:=yH (w:=w) (m:=oI q) ⟨_,_,_,_,_,rfl,aP.zero w,bY.zero w,aP.zero w⟩;rw [if_pos e] at this;exact this
 small:=fun q h=>by
  show (AA _).size≤_;unfold AA;split
  ·rw [Q0]
   have:=I7 q;show ([(1:Int)]++uO q).length≤1000;simp only [List.length_append,List.length_singleton];omega
  ·exact Nat.zero_le _
/- What is read is bounded. -/
theorem qG {β:Type} {k:Nat} {l:List Nat} {f:Nat→List Nat→β} {P:β→Prop} (hl:∀ x∈l,x<256) (h:∀ x l',x<256 ^ k→(∀ y∈l',y<256)→P (f x l')):P (nx k l f):=h _ _ (Em hl) (Tf hl)
theorem n8 {x:Nat} (h:x<256 ^ 1):U8 x:=⟨by omega,by omega⟩
theorem n32 {x:Nat} (h:x<256 ^ 4):qH x:=⟨by omega,by omega⟩
theorem n64 {x:Nat} (h:x<256 ^ 8):gZ x:=⟨by omega,by omega⟩
theorem abg {l:List Nat} (hl:∀ x∈l,x<256):(qp l).1.b:=by
 unfold qp;refine qG (P:=fun z:bH×List Nat=>z.1.b) hl fun c l hc hl=>qG (P:=fun z:bH×List Nat=>z.1.b) hl fun s l hs hl=>qG (P:=fun z:bH×List Nat=>z.1.b) hl fun k l hk hl=>qG (P:=fun z:bH×List Nat=>z.1.b) hl fun key l hkey hl=>?_
 split
 ·exact qG (P:=fun z:bH×List Nat=>z.1.b) hl fun v l hv hl=>⟨n8 hc,n32 hs,n8 hk,n64 hkey,n64 hv,yM,AQ⟩
 split
 ·exact qG (P:=fun z:bH×List Nat=>z.1.b) hl fun hi l hhi hl=>qG (P:=fun z:bH×List Nat=>z.1.b) hl fun to l hto hl=>⟨n8 hc,n32 hs,n8 hk,n64 hkey,yM,n64 hhi,n8 hto⟩
 ·exact ⟨n8 hc,n32 hs,n8 hk,n64 hkey,yM,yM,AQ⟩
theorem abh {l:List Nat} (hl:∀ x∈l,x<256):(gN l).1.n≤4294967295:=by
 unfold gN;refine qG (P:=fun z:dh×List Nat=>z.1.n≤4294967295) hl fun n l hn hl=>?_
 show n≤4294967295;omega
theorem abj {l:List Nat} (hl:∀ x∈l,x<256):(dX l).1.b.n≤4294967295∧((dX l).1.kind=1→(dX l).1.q.b):=by
 unfold dX;refine qG (P:=fun z:MM×List Nat=>z.1.b.n≤4294967295∧(z.1.kind=1→z.1.q.b)) hl fun k l hk hl=>?_
 by_cases h:k=1
 ·rw [if_pos h]
  exact ⟨Nat.zero_le _,fun _=>abg hl⟩
 rw [if_neg h];have hb:=abh hl;have no:(bf (k:Int)).kind=1→False:=fun e=>h (by have:(k:Int)=1:=e;omega)
 split
 ·exact ⟨Nat.zero_le _,fun e=>(no e).elim⟩
 split
 ·exact ⟨hb,fun e=>(no e).elim⟩
 split
 ·exact ⟨hb,fun e=>(no e).elim⟩
 split
 ·exact ⟨hb,fun e=>(no e).elim⟩
 split
 ·exact ⟨hb,fun e=>(no e).elim⟩
 split
 ·exact ⟨hb,fun e=>(no e).elim⟩
 split
 ·exact ⟨Nat.zero_le _,fun e=>(no e).elim⟩
 split
 ·exact ⟨Nat.zero_le _,fun e=>(no e).elim⟩
 split
 ·exact ⟨Nat.zero_le _,fun e=>(no e).elim⟩
 ·exact ⟨Nat.zero_le _,fun e=>(no e).elim⟩
theorem CZ {d:ByteArray} {m:MM} (h:sV d=some m):eF m=true∧(dX (dl d)).1=m:=by
 unfold sV at h;split at h
 ·rename_i c
  injection h with h;subst h;exact ⟨c.1,rfl⟩
 ·cases h
def gG (k:Nat) (l:List Nat):MM×List Nat :=
 if k=1 then rn qp l fun q l=>({ bf k with q:=q },l)
 else if k=2 then rn lG l fun p l=>({ bf k with p:=p },l)
 else if k=3 then rn gN l fun b l=>({ bf k with b:=b },l)
 else if k=5 then rn gN l fun b l=>({ bf k with b:=b },l)
 else if k=4 then rn gN l fun b l=>rn (ja ni) l fun vs l=>({ bf k with b:=b,vs:=vs },l)
 else if k=6 then rn gN l fun b l=>nx 4 l fun s l=>rn mF l fun c l=>({ bf k with b:=b,s:=s,c:=c },l)
 else if k=7 then rn gN l fun b l=>nx 4 l fun s l=>({ bf k with b:=b,s:=s },l)
 else if k=8 then nx 4 l fun s l=>rn mF l fun c l=>({ bf k with s:=s,c:=c },l)
 else if k=9 then rn Ar l fun r l=>({ bf k with r:=r },l)
 else if k=10 then nx 1 l fun p l=>nx 4 l fun s l=>({ bf k with peer:=p,seq:=s },l)
 else (bf k,l)
theorem nK {k:Nat} (hk:k<256) (a:List Int):dX (dn ([(k:Int)]++a))=gG k (dn a):=by
 rw [dV];exact oU (f:=gG) hk
theorem abk (l:List Nat):gG 2 l=(rn lG l fun p l=>({ bf ((2:Nat):Int) with p:=p },l)):=rfl
theorem abl (l:List Nat):gG 3 l=(rn gN l fun b l=>({ bf ((3:Nat):Int) with b:=b },l)):=rfl
theorem abm (l:List Nat):gG 5 l=(rn gN l fun b l=>({ bf ((5:Nat):Int) with b:=b },l)):=rfl
theorem abn (l:List Nat):gG 4 l=(rn gN l fun b l=>rn (ja ni) l fun vs l=>({ bf ((4:Nat):Int) with b:=b,vs:=vs },l)):=rfl
theorem abo (l:List Nat):gG 6 l=(rn gN l fun b l=>nx 4 l fun s l=>rn mF l fun c l=>({ bf ((6:Nat):Int) with b:=b,s:=s,c:=c },l)):=rfl
theorem abp (l:List Nat):gG 7 l=(rn gN l fun b l=>nx 4 l fun s l=>({ bf ((7:Nat):Int) with b:=b,s:=s },l)):=rfl
theorem abq (l:List Nat):gG 8 l=(nx 4 l fun s l=>rn mF l fun c l=>({ bf ((8:Nat):Int) with s:=s,c:=c },l)):=rfl
theorem abr (l:List Nat):gG 9 l=(rn Ar l fun r l=>({ bf ((9:Nat):Int) with r:=r },l)):=rfl
theorem aai (l:List Nat):gG 10 l=(nx 1 l fun p l=>nx 4 l fun s l=>({ bf ((10:Nat):Int) with peer:=p,seq:=s },l)):=rfl
theorem adS {m:MM} (h:eF m=true) (e:m.kind=4):mY m.vs=true:=by
 unfold eF at h;rw [if_neg (by omega),if_neg (by omega),if_neg (by omega),if_neg (by omega),if_pos e,Bool.and_eq_true] at h;exact h.1
theorem adT {m:MM} (h:eF m=true) (e:m.kind=6):kR m.c=true:=by
 unfold eF at h;rw [if_neg (by omega),if_neg (by omega),if_neg (by omega),if_neg (by omega),if_neg (by omega),if_pos e,Bool.and_eq_true] at h;exact h.1
theorem adU {m:MM} (h:eF m=true) (e:m.kind=8):kR m.c=true:=by
 unfold eF at h;rw [if_neg (by omega),if_neg (by omega),if_neg (by omega),if_neg (by omega),if_neg (by omega),if_neg (by omega),if_neg (by omega),if_pos e,Bool.and_eq_true] at h;exact h.1
theorem adV {m:MM} (h:eF m=true) (e:m.kind=9):og m.r=true:=by
 unfold eF at h;rw [if_neg (by omega),if_neg (by omega),if_neg (by omega),if_neg (by omega),if_neg (by omega),if_neg (by omega),if_neg (by omega),if_neg (by omega),if_pos e,Bool.and_eq_true] at h;exact h.1
theorem sK (a:List Int):dn a=dn a++[]:=(List.append_nil _).symm
theorem aaj {l:List MV} (h:mY l=true):∀ v∈l,kR v.c=true:=fun v hv=>by
 unfold mY jC at h;simp only [Bool.and_eq_true,decide_eq_true_eq] at h;obtain ⟨i,hi,rfl⟩:=List.getElem_of_mem hv;have:=List.all_eq_true.1 h.2 i (List.mem_range.2 hi);unfold vV at this;rw [List.getElem?_eq_getElem hi] at this;simp only [Bool.and_eq_true] at this;exact this.1
theorem xG (n:Nat):n%4294967296≤4294967295:=by omega
def nb (b:dh):dh:=⟨b.n%4294967296,b.id%256⟩
def nv (v:MV):MV:=⟨v.slot%4294967296,nb v.b,v.c⟩
def nrm (m:MM):MM :=
 if m.kind=3 then { bf 3 with b:=nb m.b }
 else if m.kind=5 then { bf 5 with b:=nb m.b }
 else if m.kind=4 then { bf 4 with b:=nb m.b,vs:=m.vs.map nv }
 else if m.kind=6 then { bf 6 with b:=nb m.b,s:=m.s%4294967296,c:=m.c }
 else if m.kind=7 then { bf 7 with b:=nb m.b,s:=m.s%4294967296 }
 else if m.kind=8 then { bf 8 with s:=m.s%4294967296,c:=m.c }
 else if m.kind=9 then { bf 9 with r:=m.r }
 else { bf 10 with peer:=m.peer,seq:=m.seq }
theorem net_eq {N n:Nat} {m m':MM} (h:MG (AP N) n m) (hd:sV (AA m)=some m'):m.kind=2∧(∃ p,m'={ bf 2 with p:=p })∨m'=nrm m∧3≤m.kind∧m.kind≤10:=by
 obtain ⟨ok',e⟩:=CZ hd;unfold AA at e;split at e
 case isFalse =>
  subst e;exact absurd ok' (by decide)
 rename_i ok;obtain ⟨_,k1,k10⟩:=Ev ok;have kn:=h.k1;rw [Mj] at e;unfold kZ at e;obtain ⟨kd,q,p,b,s,c,vs,r,peer,seq⟩:=m;have k1:1≤kd:=k1;have k10:kd≤10:=k10;have kn:kd≠1:=kn;rcases (by omega:kd=2∨kd=3∨kd=4∨kd=5∨kd=6∨kd=7∨kd=8∨kd=9∨kd=10) with rfl | rfl | rfl | rfl | rfl | rfl | rfl | rfl | rfl
 ·have e:(dX (dn ([((2:Nat):Int)]++mU p))).1=m':=e
  rw [nK (by decide)] at e;rw [abk] at e;subst e;exact .inl ⟨rfl,_,rfl⟩
 ·have e:(dX (dn ([((3:Nat):Int)]++eB b.n b.id))).1=m':=e
  rw [nK (by decide)] at e;have e2:gG 3 (dn (eB b.n b.id))=({ bf ((3:Nat):Int) with b:=⟨b.n%4294967296,b.id%256⟩ },[]):=by
   rw [sK];rw [abl,dP (rz b.n b.id [])]
  rw [e2] at e;subst e;exact .inr ⟨rfl,by simp,by simp⟩
 ·have e:(dX (dn ([((4:Nat):Int)]++(eB b.n b.id++([(vs.length:Int)]++(vs.map kD).flatten))))).1=m':=e
  rw [nK (by decide)] at e;have ov:mY vs=true:=by
   exact adS ok rfl
  obtain ⟨hv,hl⟩:=h.vs rfl;have e2:gG 4 (dn (eB b.n b.id++([(vs.length:Int)]++(vs.map kD).flatten)))=({ bf ((4:Nat):Int) with b:=⟨b.n%4294967296,b.id%256⟩,vs:=vs.map fun v=>⟨v.slot%4294967296,⟨v.b.n%4294967296,v.b.id%256⟩,v.c⟩ },[]):=by
   rw [dV,sK ([(vs.length:Int)]++_)];rw [abn,dP (rz b.n b.id _)];exact dP (AB (e:=kD) (g:=fun v=>⟨v.slot%4294967296,⟨v.b.n%4294967296,v.b.id%256⟩,v.c⟩) (fun v hv'=>QH (hv v hv').1 (aaj ov v hv')) (fun v=>by simp [kD,b32]) (Nat.le_trans hl (by decide)) []) _
  rw [e2] at e;subst e;exact .inr ⟨rfl,by simp,by simp⟩
 ·have e:(dX (dn ([((5:Nat):Int)]++eB b.n b.id))).1=m':=e
  rw [nK (by decide)] at e;have e2:gG 5 (dn (eB b.n b.id))=({ bf ((5:Nat):Int) with b:=⟨b.n%4294967296,b.id%256⟩ },[]):=by
   rw [sK];rw [abm,dP (rz b.n b.id [])]
  rw [e2] at e;subst e;exact .inr ⟨rfl,by simp,by simp⟩
 ·have e:(dX (dn ([((6:Nat):Int)]++(eB b.n b.id++b32 s++mf c)))).1=m':=e
  rw [nK (by decide)] at e;have oc:kR c=true:=by
   exact adT ok rfl
  obtain ⟨hc,hs⟩:=h.acc rfl;have e2:gG 6 (dn (eB b.n b.id++b32 s++mf c))=({ bf ((6:Nat):Int) with b:=⟨b.n%4294967296,b.id%256⟩,s:=s%4294967296,c:=c },[]):=by
   rw [dV,dV,sK (mf c),List.append_assoc];rw [abo,dP (rz b.n b.id _),Ml,dP (CW hc oc [])]
  rw [e2] at e;subst e;exact .inr ⟨rfl,by simp,by simp⟩
 ·have e:(dX (dn ([((7:Nat):Int)]++(eB b.n b.id++b32 s)))).1=m':=e
  rw [nK (by decide)] at e;have hs:=h.Ad rfl;have e2:gG 7 (dn (eB b.n b.id++b32 s))=({ bf ((7:Nat):Int) with b:=⟨b.n%4294967296,b.id%256⟩,s:=s%4294967296 },[]):=by
   rw [dV,sK (b32 s)];rw [abp,dP (rz b.n b.id _),Ml]
  rw [e2] at e;subst e;exact .inr ⟨rfl,by simp,by simp⟩
 ·have e:(dX (dn ([((8:Nat):Int)]++(b32 s++mf c)))).1=m':=e
  rw [nK (by decide)] at e;have oc:kR c=true:=by
   exact adU ok rfl
  obtain ⟨hc,hs⟩:=h.dec rfl;have e2:gG 8 (dn (b32 s++mf c))=({ bf ((8:Nat):Int) with s:=s%4294967296,c:=c },[]):=by
   rw [dV,sK (mf c)];rw [abq,Ml,dP (CW hc oc [])]
  rw [e2] at e;subst e;exact .inr ⟨rfl,by simp,by simp⟩
 ·have e:(dX (dn ([((9:Nat):Int)]++Eg r))).1=m':=e
  rw [nK (by decide)] at e;have orr:og r=true:=by
   exact adV ok rfl
  have hm:=h.uR rfl;have hg:lQ N (oF r):=hm.2.2.2;have e2:gG 9 (dn (Eg r))=({ bf ((9:Nat):Int) with r:=r },[]):=by
   rw [sK];rw [abr,dP (Mm (x:=r) hg.r orr [])]
  rw [e2] at e;subst e;exact .inr ⟨rfl,by simp,by simp⟩
 ·have e:(dX (dn ([((10:Nat):Int)]++([peer]++b32 seq)))).1=m':=e
  rw [nK (by decide)] at e;have hm:=h.pI rfl;have hg:lQ N (sS peer seq):=hm.2.2;obtain ⟨x,ex,hx⟩:=U8.nat (x:=peer) hg.peer;obtain ⟨y,ey,hy⟩:=qH.nat (x:=seq) hg.seq;have e2:gG 10 (dn ([peer]++b32 seq))=({ bf ((10:Nat):Int) with peer:=peer,seq:=seq },[]):=by
   rw [ex,ey,dV,sK (b32 _)];rw [aai,oU hx,JK hy]
  rw [e2] at e;subst e;exact .inr ⟨rfl,by simp,by simp⟩
theorem Ub {N n:Nat} {m m':MM} (h:MG (AP N) n m) (hd:sV (AA m)=some m'):MG (AP N) n m':=by
 rcases net_eq h hd with ⟨_,p,rfl⟩ | ⟨rfl,k3,k10⟩
 ·exact .tell p
 ·obtain ⟨kd,q,p,b,s,c,vs,r,peer,seq⟩:=m
  unfold nrm;dsimp only;split
  ·exact .UD (.inl rfl) (xG _)
  split
  ·exact .UD (.inr rfl) (xG _)
  split
  ·rename_i e
   obtain ⟨hv,hl⟩:=h.vs e;exact .promise (xG _) (fun v hv'=>by obtain ⟨y,hy,rfl⟩:=List.mem_map.1 hv';exact ⟨(hv y hy).1,Nat.lt_of_le_of_lt (Nat.mod_le _ _) (hv y hy).2⟩) (by rw [List.length_map];exact hl)
  split
  ·rename_i e;exact .accept (xG _) (Nat.lt_of_le_of_lt (Nat.mod_le _ _) (h.acc e).2) (h.acc e).1
  split
  ·rename_i e;exact .accepted (xG _) (Nat.lt_of_le_of_lt (Nat.mod_le _ _) (h.Ad e))
  split
  ·rename_i e;exact .decide (Nat.lt_of_le_of_lt (Nat.mod_le _ _) (h.dec e).2) (h.dec e).1
  split
  ·rename_i e;exact .move (h.uR e)
  ·have k3:3≤kd:=k3
   have k10:kd≤10:=k10;exact .aaF (h.pI (show kd=10 by omega))
theorem J6 (N:Nat):je (AP N) where
 lens:=fun s h=>by
  have h:dI N _ s:=h;have:=h.ok.il;have:=h.ok.ol;exact ⟨by omega,by omega,h.ok.n4⟩
 stay:=fun s c _ _=>abf s c
 YW:=fun g n _ _=>⟨rfl,rfl⟩
 lane:=fun s h o ho r hr=>by
  have h:dI N _ s:=h;obtain ⟨h1,h2⟩:=(h.o o ho).2.2.2 r hr;exact ⟨h1,by have:=h2.seq.2;omega,lQ.recv h2 (by have:=h.ok.gn;have:=h.n;omega)⟩
 Lm:=fun s h x hx=>by
  have h:dI N _ s:=h;have:=h.i x hx;have:=h.Ay;omega
 YX:=fun p s h1 h2 h3 h4=>lQ.adR ⟨h1,by omega⟩ ⟨h3,by omega⟩
 ask:=fun d m h=>by
  obtain ⟨h1,h2⟩:=CZ h;have:=abj (Ha d);rw [h2] at this;refine ⟨this.1,fun e=>lQ.asks (this.2 e) ?_⟩;unfold eF at h1;rw [if_pos e,Bool.and_eq_true] at h1;exact h1.1
 kind:=fun d m h=>(Ev (CZ h).1).2
 rl:=fun c h=>by
  have h:lQ N c:=h;exact ⟨h.r.rl,h.r.dl⟩
 rc:=fun s c h hc=>(Vr h hc).2
 back:=fun n m m' h hd=>Ub h hd
theorem Xg:JV (AP 1) where
 gc:=lQ.asks ⟨⟨by decide,by decide⟩,⟨by decide,by decide⟩,⟨by decide,by decide⟩,⟨by decide,by decide⟩,⟨by decide,by decide⟩,⟨by decide,by decide⟩,⟨by decide,by decide⟩⟩ (by decide)
 live:=fun f hf=>by
  rcases (by omega:f=0∨f=1∨f=2) with rfl | rfl | rfl
  ·kernel_rfl
  ·kernel_rfl
  ·kernel_rfl
 room:=fun f hf=>by
  refine Nat.le_of_ble_eq_true ?_;rcases (by omega:f=0∨f=1∨f=2) with rfl | rfl | rfl
  ·kernel_rfl
  ·kernel_rfl
  ·kernel_rfl
theorem xH {a b:Int} (h:0≤a):a.tmod b=a%b:=Int.tmod_eq_emod_of_nonneg h
theorem Q4 {k:Int} (h:gZ k):gZ (jI k):=by
 unfold jI;rw [xH h.1];split
 ·exact ⟨by decide,by decide⟩
 ·exact ⟨by omega,by omega⟩
theorem ME {q:bH} (h:q.b):(dD q).b∧kJ (dD q)=true:=by
 have hk:=Q4 h.key;have hh:=Q4 h.hi;have z64:gZ 0:=⟨Int.le_refl 0,by decide⟩;have z8:U8 0:=⟨Int.le_refl 0,by decide⟩;have e1:q.c.tmod 3=q.c%3:=xH h.c.1;have e2:q.s.tmod 9=q.s%9:=xH h.s.1;have e3:q.k.tmod 4=q.k%4:=xH h.k.1;have e4:q.to.tmod 4=q.to%4:=xH h.to.1;unfold dD;rw [e1,e2,e3,e4];have ha:kI (q.c%3) (1+q.s%9)=true:=by
  unfold kI;simp only [Bool.and_eq_true,decide_eq_true_eq];omega
 refine ⟨⟨⟨by dsimp only;omega,by dsimp only;omega⟩,⟨by dsimp only;omega,by dsimp only;omega⟩,⟨by dsimp only;omega,by dsimp only;omega⟩,hk,?_,?_,?_⟩,?_⟩
 ·dsimp only;split
  ·exact h.v
  ·exact z64
 ·dsimp only;split
  ·split
   ·exact hk
   ·exact hh
  ·exact z64
 ·dsimp only;split
  ·exact ⟨by omega,by omega⟩
  ·exact z8
 ·unfold kJ
  dsimp only;rw [ha,Bool.true_and];rcases (by omega:q.k%4=0∨q.k%4=1∨q.k%4=2∨q.k%4=3) with e | e | e | e
  ·rw [e];rfl
  ·rw [e];rfl
  ·rw [e];rfl
  ·rw [e]
   show (decide (jI q.key≤if jI q.hi<jI q.key then jI q.key else jI q.hi) && (decide (q.to%4<4) && true))=true;simp only [Bool.and_eq_true,decide_eq_true_eq,Bool.and_true];refine ⟨?_,by omega⟩;split <;> omega
end
section
open Go.ChangeShapes Go.WideShapes Go.ChangeAt Go.RowKit
theorem Tryz.own:ownKnob Tryz.prog.godebug=none:=by kernel_rfl
theorem Tryz.laidOut:laidOutB Tryz.prog=true:=by kernel_rfl
theorem Uc {a:Addr} (h:a.spot=none) (n:Nat):a.add n=⟨a.block,a.off+n,none⟩:=by
 unfold Addr.add;split
 ·subst n;cases a;simp_all
 ·rfl
theorem Q7 {w:World} {a:Addr} {u:Value} (h:w.cell? a=some u):a.spot=none:=by
 unfold World.cell? at h;split at h
 ·split at h
  ·cases h
  ·rename_i hs;simpa using hs
 ·cases h
section
variable {H:Type} {enc:TypeId×Value→H} {P:Program} {w:World}
theorem Q8 {α:Type} [Inhabited α] {t e:TypeId} {size fuel:Nat} {v:Value} {x:DataW H×List MemPlace} (f:α→List Value) (wf:α→Prop) (ht:P.underlying t=some (.slice e)) (hc:P.cellsOf e=size) (hpos:0<size)
 (hel:∀ n cs x,DataW.trod enc P w 0 (fun _=>true) true n e cs=some x→∃ a,cs=f a∧wf a) (h:DataW.trod enc P w 0 (fun _=>true) true fuel t [v]=some x) :
 ∃ (a:Option Addr) (len cap:Nat) (xs:List α),v=.slice a len cap∧Xn w.heap.size w ⟨a,len,cap⟩ size (xs.map f)∧(a=none→cap=0)∧∀ (i:Nat) (x:α),xs[i]? = some x→wf x:=by
 rcases Go.Deep.open_slice ht h with ⟨h1,_⟩ | ⟨a,len,cap,m,n,D,Pl,h1,_,hl,hm,hmm,_,hx⟩
 ·simp only [List.cons.injEq,and_true] at h1
  subst h1;exact ⟨none,0,0,[],rfl,⟨rfl,Nat.le_refl _,Nat.zero_le _,fun h=>absurd h (Nat.lt_irrefl 0)⟩,fun _=>rfl,by simp⟩
 ·simp only [List.cons.injEq,and_true] at h1
  subst h1;have hmc:m=cap:=by simpa using hmm
  subst hmc;have hex:∀ i,i<len→∃ y:α,wf y∧w.cells? 0 (a.add (i*size)) size=some (f y):=fun i hi=>by
   obtain ⟨cs,h2,h3⟩:=hx i (by omega);obtain ⟨y,rfl,hy⟩:=hel _ _ _ h3;rw [hc] at h2;exact ⟨y,hy,h2⟩
  obtain ⟨g,hg⟩:=Go.Deep.choose_lt hex;refine ⟨some a,len,m,(List.range len).map g,rfl,⟨by simp,hl,hm,fun h0=>?_⟩,(by intro h;cases h),fun i x hi=>?_⟩
  ·have Vs:0<len:=h0
   have hsp:a.spot=none:=by
    obtain ⟨_,h5,h6⟩:=World.cells?_some (hg 0 Vs).2;have h7:=h6 0 hpos;have h8:a.add (0*size)=a:=by unfold Addr.add;simp
    have h9:a.add 0=a:=by unfold Addr.add;simp
    rw [h8,h9] at h7;have:∃ u,(f (g 0))[0]? = some u:=⟨(f (g 0))[0]'(by omega),by simp⟩;obtain ⟨u,hu⟩:=this;rw [hu] at h7;exact Q7 h7
   refine ⟨a.block,a.off,by cases a;simp only at hsp;rw [hsp],?_,fun i y hy j u hu=>?_⟩
   ·have:=World.cells?_block (hg 0 Vs).2 hpos
    have h8:a.add (0*size)=a:=by unfold Addr.add;simp
    rw [h8] at this;exact this
   ·simp only [List.map_map] at hy
    obtain ⟨hi,he⟩:=List.getElem?_eq_some_iff.1 hy;have hi':i<len:=by simpa using hi
    simp at he;subst he;obtain ⟨_,h5,h6⟩:=World.cells?_some (hg i hi').2;have hj:=(List.getElem?_eq_some_iff.1 hu).1;have h7:=h6 j (by omega);rw [hu,Uc hsp] at h7;unfold Addr.add at h7;split at h7
    ·subst j;exact h7
    ·exact h7
  ·obtain ⟨hi',he⟩:=List.getElem?_eq_some_iff.1 hi
   have hl':i<len:=by simpa using hi'
   simp at he;subst he;exact (hg i hl').1
end
theorem wf_u64 {n:Int} (h:(Lit.int .u64 n).wf=true):0≤n∧n<18446744073709551616:=by
 have h':IntKind.min .u64≤n∧n≤IntKind.max .u64:=by simpa [Lit.wf] using h
 have e1:IntKind.min .u64=0:=by decide
 have e2:IntKind.max .u64=18446744073709551615:=by decide
 omega
theorem wf_u8 {n:Int} (h:(Lit.int .u8 n).wf=true):0≤n∧n<256:=by
 have h':IntKind.min .u8≤n∧n≤IntKind.max .u8:=by simpa [Lit.wf] using h
 have e1:IntKind.min .u8=0:=by decide
 have e2:IntKind.max .u8=255:=by decide
 omega
theorem wf_u32 {n:Int} (h:(Lit.int .u32 n).wf=true):0≤n∧n<4294967296:=by
 have h':IntKind.min .u32≤n∧n≤IntKind.max .u32:=by simpa [Lit.wf] using h
 have e1:IntKind.min .u32=0:=by decide
 have e2:IntKind.max .u32=4294967295:=by decide
 omega
theorem Q9 {H:Type} {enc:TypeId×Value→H} {W:World} {base:Nat} {sp:Nat→Bool} {held:Bool} (b:Bool):DataW.Trod enc Tryz.prog W base sp held 4 (.bool b) (.lit (.bool b)) []:=⟨1,by simp [DataW.trod,Value.cells,Tryz.underlying4]⟩
end
section
open Go Go.ChangeShapes Go.WideShapes Go.ChangeAt Go.RowKit Go.Conc
theorem za (l:List Value) (a n b:Nat) (h:a+n=b):l.drop a=(l.drop a).take n++l.drop b:=by
 subst h;rw [← List.drop_drop];exact (List.take_append_drop n (l.drop a)).symm
instance:Inhabited Stp:=⟨⟨0,0,0,ByteArray.empty,⟨0,0,0,0,0,0,0⟩⟩⟩
section
variable {H:Type} {enc:TypeId×Value→H} {P:Program} {w:World}
theorem lenOf {t:TypeId} {fs:Array Field} {fuel:Nat} {cs:List Value} {x:DataW H×List MemPlace} (ht:P.underlying t=some (.struct fs)) (h:DataW.trod enc P w 0 (fun _=>true) true fuel t cs=some x):cs.length=P.cellsOf t:=by
 obtain ⟨xs,n,_,_,hl,_,_⟩:=DataW.trod_struct ht h;exact hl
theorem fieldAt {t:TypeId} {fs:Array Field} {fuel:Nat} {cs:List Value} {x:DataW H×List MemPlace} (ht:P.underlying t=some (.struct fs)) (h:DataW.trod enc P w 0 (fun _=>true) true fuel t cs=some x) (i:Nat) (f:Field) (hf:fs[i]? = some f) :
 ∃ y n,DataW.trod enc P w 0 (fun _=>true) true n f.type ((cs.drop f.offset).take (P.cellsOf f.type))=some y∧True:=by
 obtain ⟨xs,n,_,rfl,_,hl,hx⟩:=DataW.trod_struct ht h;have hi:i<xs.length:=by rw [hl];exact (Array.getElem?_eq_some_iff.1 hf).1
 have hy:xs[i]? = some xs[i]:=List.getElem?_eq_getElem hi;exact ⟨xs[i],n,(hx i f hf).trans hy,trivial⟩
end
theorem wf_i64 {n:Int} (h:(Lit.int .i64 n).wf=true):uY n:=by
 have h':IntKind.min .i64≤n∧n≤IntKind.max .i64:=by simpa [Lit.wf] using h
 have e1:IntKind.min .i64 = -9223372036854775808:=by decide
 have e2:IntKind.max .i64=9223372036854775807:=by decide
 unfold uY;omega
structure Stp.w (t:Stp):Prop where
 kind:uY t.kind
 a:uY t.a
 b:uY t.b
 q:t.q.b
theorem Stp.w.wf {t:Stp} (h:t.w) (N:Nat):t.wf (AP N):=⟨h.kind,h.a,h.b,h.q.s.1,h.q.k.1,lQ.asks (ME h.q).1 (ME h.q).2⟩
section
variable {H:Type} {enc:TypeId×Value→H} {w:World}
theorem Rb {n:Nat} {cs:List Value} {x:DataW H×List MemPlace} (h:DataW.trod enc Tryz.prog w 0 (fun _=>true) true n 65 cs=some x):∃ r:bH,cs=r.cells∧r.b:=by
 have hl:=lenOf Tryz.underlying65 h;rw [(by kernel_rfl:Tryz.prog.cellsOf 65=7)] at hl;have hd:cs.drop 7=[]:=List.drop_of_length_le (by omega);obtain ⟨y0,n0,g0,u0⟩:=fieldAt Tryz.underlying65 h 0 _ rfl;replace g0:DataW.trod enc Tryz.prog w 0 (fun _=>true) true n0 5 ((cs.drop 0).take (Tryz.prog.cellsOf 5))=some y0:=g0;rw [(by kernel_rfl:Tryz.prog.cellsOf 5=1)] at g0;obtain ⟨a0,e0,_,w0⟩:=DataW.trod_int Tryz.underlying5 g0;have v0:=wf_u8 w0;obtain ⟨y1,n1,g1,u1⟩:=fieldAt Tryz.underlying65 h 1 _ rfl;replace g1:DataW.trod enc Tryz.prog w 0 (fun _=>true) true n1 59 ((cs.drop 1).take (Tryz.prog.cellsOf 59))=some y1:=g1;rw [(by kernel_rfl:Tryz.prog.cellsOf 59=1)] at g1;obtain ⟨a1,e1,_,w1⟩:=DataW.trod_int Tryz.underlying59 g1;have v1:=wf_u32 w1;obtain ⟨y2,n2,g2,u2⟩:=fieldAt Tryz.underlying65 h 2 _ rfl;replace g2:DataW.trod enc Tryz.prog w 0 (fun _=>true) true n2 5 ((cs.drop 2).take (Tryz.prog.cellsOf 5))=some y2:=g2;rw [(by kernel_rfl:Tryz.prog.cellsOf 5=1)] at g2;obtain ⟨a2,e2,_,w2⟩:=DataW.trod_int Tryz.underlying5 g2;have v2:=wf_u8 w2;obtain ⟨y3,n3,g3,u3⟩:=fieldAt Tryz.underlying65 h 3 _ rfl;replace g3:DataW.trod enc Tryz.prog w 0 (fun _=>true) true n3 31 ((cs.drop 3).take (Tryz.prog.cellsOf 31))=some y3:=g3;rw [(by kernel_rfl:Tryz.prog.cellsOf 31=1)] at g3;obtain ⟨a3,e3,_,w3⟩:=DataW.trod_int Tryz.underlying31 g3;have v3:=wf_u64 w3;obtain ⟨y4,n4,g4,u4⟩:=fieldAt Tryz.underlying65 h 4 _ rfl;replace g4:DataW.trod enc Tryz.prog w 0 (fun _=>true) true n4 31 ((cs.drop 4).take (Tryz.prog.cellsOf 31))=some y4:=g4;rw [(by kernel_rfl:Tryz.prog.cellsOf 31=1)] at g4;obtain ⟨a4,e4,_,w4⟩:=DataW.trod_int Tryz.underlying31 g4;have v4:=wf_u64 w4;obtain ⟨y5,n5,g5,u5⟩:=fieldAt Tryz.underlying65 h 5 _ rfl;replace g5:DataW.trod enc Tryz.prog w 0 (fun _=>true) true n5 31 ((cs.drop 5).take (Tryz.prog.cellsOf 31))=some y5:=g5;rw [(by kernel_rfl:Tryz.prog.cellsOf 31=1)] at g5;obtain ⟨a5,e5,_,w5⟩:=DataW.trod_int Tryz.underlying31 g5;have v5:=wf_u64 w5;obtain ⟨y6,n6,g6,u6⟩:=fieldAt Tryz.underlying65 h 6 _ rfl;replace g6:DataW.trod enc Tryz.prog w 0 (fun _=>true) true n6 5 ((cs.drop 6).take (Tryz.prog.cellsOf 5))=some y6:=g6;rw [(by kernel_rfl:Tryz.prog.cellsOf 5=1)] at g6;obtain ⟨a6,e6,_,w6⟩:=DataW.trod_int Tryz.underlying5 g6;have v6:=wf_u8 w6;have hcs:cs=[.int .u8 a0,.int .u32 a1,.int .u8 a2,.int .u64 a3,.int .u64 a4,.int .u64 a5,.int .u8 a6]:=by
  show cs.drop 0=_;rw [za cs 0 1 1 rfl,e0,za cs 1 1 2 rfl,e1,za cs 2 1 3 rfl,e2,za cs 3 1 4 rfl,e3,za cs 4 1 5 rfl,e4,za cs 5 1 6 rfl,e5,za cs 6 1 7 rfl,e6,hd];rfl
 exact ⟨⟨a0,a1,a2,a3,a4,a5,a6⟩,hcs,⟨v0,v1,v2,v3,v4,v5,v6⟩⟩
theorem step_cells {n:Nat} {cs:List Value} {x:DataW H×List MemPlace} (h:DataW.trod enc Tryz.prog w 0 (fun _=>true) true n 95 cs=some x):∃ t:Stp,cs=t.cells∧t.w:=by
 have hl:=lenOf Tryz.underlying95 h;rw [(by kernel_rfl:Tryz.prog.cellsOf 95=11)] at hl;have hd:cs.drop 11=[]:=List.drop_of_length_le (by omega);obtain ⟨y0,n0,g0,u0⟩:=fieldAt Tryz.underlying95 h 0 _ rfl;replace g0:DataW.trod enc Tryz.prog w 0 (fun _=>true) true n0 3 ((cs.drop 0).take (Tryz.prog.cellsOf 3))=some y0:=g0;rw [(by kernel_rfl:Tryz.prog.cellsOf 3=1)] at g0;obtain ⟨a0,e0,_,w0⟩:=DataW.trod_int Tryz.underlying3 g0;have v0:=wf_i64 w0;obtain ⟨y1,n1,g1,u1⟩:=fieldAt Tryz.underlying95 h 1 _ rfl;replace g1:DataW.trod enc Tryz.prog w 0 (fun _=>true) true n1 3 ((cs.drop 1).take (Tryz.prog.cellsOf 3))=some y1:=g1;rw [(by kernel_rfl:Tryz.prog.cellsOf 3=1)] at g1;obtain ⟨a1,e1,_,w1⟩:=DataW.trod_int Tryz.underlying3 g1;have v1:=wf_i64 w1;obtain ⟨y2,n2,g2,u2⟩:=fieldAt Tryz.underlying95 h 2 _ rfl;replace g2:DataW.trod enc Tryz.prog w 0 (fun _=>true) true n2 3 ((cs.drop 2).take (Tryz.prog.cellsOf 3))=some y2:=g2;rw [(by kernel_rfl:Tryz.prog.cellsOf 3=1)] at g2;obtain ⟨a2,e2,_,w2⟩:=DataW.trod_int Tryz.underlying3 g2;have v2:=wf_i64 w2;obtain ⟨y3,n3,g3,u3⟩:=fieldAt Tryz.underlying95 h 3 _ rfl;replace g3:DataW.trod enc Tryz.prog w 0 (fun _=>true) true n3 9 ((cs.drop 3).take (Tryz.prog.cellsOf 9))=some y3:=g3;rw [(by kernel_rfl:Tryz.prog.cellsOf 9=1)] at g3;obtain ⟨a3,e3,_,w3⟩:=DataW.trod_string Tryz.underlying9 g3;obtain ⟨y4,n4,g4,u4⟩:=fieldAt Tryz.underlying95 h 4 _ rfl;replace g4:DataW.trod enc Tryz.prog w 0 (fun _=>true) true n4 65 ((cs.drop 4).take (Tryz.prog.cellsOf 65))=some y4:=g4;rw [(by kernel_rfl:Tryz.prog.cellsOf 65=7)] at g4;obtain ⟨r,e4,v4⟩:=Rb g4;have hcs:cs=[.int .i64 a0,.int .i64 a1,.int .i64 a2,.string a3]++r.cells:=by
  show cs.drop 0=_;rw [za cs 0 1 1 rfl,e0,za cs 1 1 2 rfl,e1,za cs 2 1 3 rfl,e2,za cs 3 1 4 rfl,e3,za cs 4 7 11 rfl,e4,hd];rfl
 exact ⟨⟨a0,a1,a2,a3,r⟩,hcs,⟨v0,v1,v2,v4⟩⟩
end
theorem J7 {n:Nat} {cs:List Value}:∀ {xs:List (List Value)} {off:Nat},(∀ x∈xs,x.length=n)→(∀ (i:Nat) (x:List Value),xs[i]? = some x→∀ (j:Nat) (u:Value),x[j]? = some u→cs[off+i*n+j]? = some u)→aO cs off (xs.length*n)=xs.flatten
 | [],off,_,_=>by simp [aO]
 | x::xs,off,hl,h=>by
  have hx:x.length=n:=hl x List.mem_cons_self;have ih:=J7 (n:=n) (cs:=cs) (xs:=xs) (off:=off+n) (fun y hy=>hl y (List.mem_cons_of_mem _ hy)) fun i y hy j u hu=>by
   have:=h (i+1) y (by simpa using hy) j u hu;rw [Nat.add_mul,Nat.one_mul] at this;rw [← this];congr 1;omega
  have e:(cs.drop off).take n=x:=by
   refine List.ext_getElem? fun j=>?_
   rw [List.getElem?_take];by_cases hj:j<n
   ·rw [if_pos hj,List.getElem?_drop]
    have hu:x[j]? = some (x[j]'(by omega)):=List.getElem?_eq_getElem (by omega);rw [hu];have:=h 0 x rfl j _ hu;rwa [Nat.zero_mul,Nat.add_zero] at this
   ·rw [if_neg hj,List.getElem?_eq_none (by omega)]
  unfold aO at ih ⊢;rw [List.length_cons,Nat.add_mul,Nat.one_mul,Nat.add_comm,List.take_add,e,List.drop_drop,ih,List.flatten_cons]
theorem Xh {W:World} {a:Option Addr} {len cap:Nat} {l:List Stp} (h:Xn W.heap.size W ⟨a,len,cap⟩ 11 (l.map Stp.cells)):len=l.length∧l.length≤9223372036854775807∧FzZ W 11 (.slice a l.length cap) l.length (l.map Stp.cells).flatten:=by
 have e1:len=l.length:=by have:=h.len;simpa using this
 have h2:len≤cap:=h.le;have h3:cap≤maxLen:=h.max;have e3:maxLen=9223372036854775807:=by decide
 have hlen:∀ x∈l.map Stp.cells,x.length=11:=fun x hx=>by
  obtain ⟨t,_,rfl⟩:=List.mem_map.1 hx;rfl
 refine ⟨e1,by omega,a,cap,rfl,by omega,?_,?_⟩
 ·have:∀ (xs:List (List Value)),(∀ x∈xs,x.length=11)→xs.flatten.length=xs.length*11:=fun xs=>by
   induction xs with
   | nil=>intro _;rfl
   | cons x xs ih =>
    intro hx;rw [List.flatten_cons,List.length_append,ih (fun y hy=>hx y (List.mem_cons_of_mem _ hy)),hx x List.mem_cons_self,List.length_cons];omega
  rw [this _ hlen,List.length_map]
 ·by_cases h0:l.length=0
  ·exact .inl h0
  ·obtain ⟨b,off,ha,hb,hc⟩:=h.at' (by show 0<len;omega)
   have ha:a=some ⟨b,off,none⟩:=ha;obtain ⟨t,ht⟩:∃ t,l[0]? = some t:=⟨l[0],by simp [show 0<l.length by omega]⟩;have hc0:=hc 0 t.cells (by rw [List.getElem?_map,ht];rfl) 0 (.int .i64 t.kind) rfl;cases ho:W.heap[b]? with
   | none=>simp [World.cell?,ho] at hc0
   | some o =>
    cases o with
    | cells cs ty z =>
     refine .inr ⟨b,off,cs,ty,z,ha,ho,?_⟩;have:=J7 (cs:=cs.toList) (xs:=l.map Stp.cells) (off:=off) hlen fun i x hx j u hu=>by
      have:=hc i x hx j u hu;rw [cell_of_row W b _ cs ty z ho] at this;rw [Array.getElem?_toList];exact this
     rwa [List.length_map] at this
    | _=>simp [World.cell?,ho] at hc0
end
end Go.Proofs.YtignemioillaiabGreat
