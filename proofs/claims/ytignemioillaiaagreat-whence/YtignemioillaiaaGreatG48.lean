/- Every letter of a net, filled in. -/
import Derived.Test.YtignemioillaiaaGreatG47
import Derived.ProofKit
import Derived.Deep.Slices
import Derived.Deep.Strs
import Derived.SizedLaws
import Derived.ChangeMaps5
import Derived.ClaimOpenTies
namespace Go.Proofs.YtignemioillaiaaGreat
set_option maxHeartbeats 8000000
set_option maxRecDepth 100000
section
open Go Go.Conc
def gI(k:Nat)(l:List Nat):MM×List Nat :=
 if k=1 then rn pI l λq l=>({ aO k with q:=q },l)
 else if k=2 then rn lU l λp l=>({ aO k with p:=p },l)
 else if k=3 then rn iA l λb l=>({ aO k with b:=b },l)
 else if k=5 then rn iA l λb l=>({ aO k with b:=b },l)
 else if k=4 then rn iA l λb l=>rn (jr nL) l λvs l=>({ aO k with b:=b,vs:=vs },l)
 else if k=6 then rn iA l λb l=>nx 4 l λs l=>rn ni l λc l=>({ aO k with b:=b,s:=s,c:=c },l)
 else if k=7 then rn iA l λb l=>nx 4 l λs l=>({ aO k with b:=b,s:=s },l)
 else if k=8 then nx 4 l λs l=>rn ni l λc l=>({ aO k with s:=s,c:=c },l)
 else if k=9 then rn Bn l λr l=>({ aO k with r:=r },l)
 else if k=10 then nx 1 l λp l=>nx 4 l λs l=>({ aO k with peer:=p,seq:=s },l)
 else(aO k,l)
theorem kY{k:Nat}(hk:k<256)(a:List Int):dW (dn ([(k:Int)]++a))=gI k (dn a):=by
 rw[eB];exact pW (f:=gI) hk
theorem WI(l:List Nat):gI 2 l=(rn lU l λp l=>({ aO ((2:Nat):Int)with p:=p },l)):=rfl
theorem acx(l:List Nat):gI 3 l=(rn iA l λb l=>({ aO ((3:Nat):Int)with b:=b },l)):=rfl
theorem acy(l:List Nat):gI 5 l=(rn iA l λb l=>({ aO ((5:Nat):Int)with b:=b },l)):=rfl
theorem acz(l:List Nat):gI 4 l=(rn iA l λb l=>rn (jr nL) l λvs l=>({ aO ((4:Nat):Int)with b:=b,vs:=vs },l)):=rfl
theorem acA(l:List Nat):gI 6 l=(rn iA l λb l=>nx 4 l λs l=>rn ni l λc l=>({ aO ((6:Nat):Int)with b:=b,s:=s,c:=c },l)):=rfl
theorem acB(l:List Nat):gI 7 l=(rn iA l λb l=>nx 4 l λs l=>({ aO ((7:Nat):Int)with b:=b,s:=s },l)):=rfl
theorem acC(l:List Nat):gI 8 l=(nx 4 l λs l=>rn ni l λc l=>({ aO ((8:Nat):Int)with s:=s,c:=c },l)):=rfl
theorem acD(l:List Nat):gI 9 l=(rn Bn l λr l=>({ aO ((9:Nat):Int)with r:=r },l)):=rfl
theorem abf(l:List Nat):gI 10 l=(nx 1 l λp l=>nx 4 l λs l=>({ aO ((10:Nat):Int)with peer:=p,seq:=s },l)):=rfl
theorem ae2{m:MM}(h:fu m=true)(e:m.kind=4):nI m.vs=true:=by
 unfold fu at h;rw[if_neg (by omega),if_neg (by omega),if_neg (by omega),if_neg (by omega),if_pos e,Bool.and_eq_true]at h;exact h.1
theorem ae3{m:MM}(h:fu m=true)(e:m.kind=6):lh m.c=true:=by
 unfold fu at h;rw[if_neg (by omega),if_neg (by omega),if_neg (by omega),if_neg (by omega),if_neg (by omega),if_pos e,Bool.and_eq_true]at h;exact h.1
theorem ae4{m:MM}(h:fu m=true)(e:m.kind=8):lh m.c=true:=by
 unfold fu at h;rw[if_neg (by omega),if_neg (by omega),if_neg (by omega),if_neg (by omega),if_neg (by omega),if_neg (by omega),if_neg (by omega),if_pos e,Bool.and_eq_true]at h;exact h.1
theorem ae5{m:MM}(h:fu m=true)(e:m.kind=9):oU m.r=true:=by
 unfold fu at h;rw[if_neg (by omega),if_neg (by omega),if_neg (by omega),if_neg (by omega),if_neg (by omega),if_neg (by omega),if_neg (by omega),if_neg (by omega),if_pos e,Bool.and_eq_true]at h;exact h.1
theorem rA(a:List Int):dn a=dn a++[]:=(List.append_nil _).symm
theorem abg{l:List MV}(h:nI l=true):∀v∈l,lh v.c=true:=λv hv=>by
 unfold nI jP at h;simp only[Bool.and_eq_true,decide_eq_true_eq]at h;obtain⟨i,hi,rfl⟩:=List.getElem_of_mem hv;have:=List.all_eq_true.1 h.2 i (List.mem_range.2 hi);unfold wP at this;rw[List.getElem?_eq_getElem hi]at this;simp only[Bool.and_eq_true]at this;exact this.1
theorem ym(n:Nat):n%4294967296<=4294967295:=by omega
def nb(b:bF):bF:=⟨b.n%4294967296,b.id%256⟩
def nv(v:MV):MV:=⟨v.slot%4294967296,nb v.b,v.c⟩
def Bz(m:MM):MM :=
 if m.kind=3 then{ aO 3 with b:=nb m.b }
 else if m.kind=5 then{ aO 5 with b:=nb m.b }
 else if m.kind=4 then{ aO 4 with b:=nb m.b,vs:=m.vs.map nv }
 else if m.kind=6 then{ aO 6 with b:=nb m.b,s:=m.s%4294967296,c:=m.c }
 else if m.kind=7 then{ aO 7 with b:=nb m.b,s:=m.s%4294967296 }
 else if m.kind=8 then{ aO 8 with s:=m.s%4294967296,c:=m.c }
 else if m.kind=9 then{ aO 9 with r:=m.r }
 else{ aO 10 with peer:=m.peer,seq:=m.seq }
theorem Sm{N n:Nat}{m m':MM}(h:MG (nQ N) n m)(hd:oG (ru m)=some m'):m.kind=2/\(∃p,m'={ aO 2 with p:=p })\/m'=Bz m/\3<=m.kind/\m.kind<=10:=by
 obtain⟨ok',e⟩:=vV hd;unfold ru at e;split at e
 case isFalse =>
  subst e;exact absurd ok' (by decide)
 rename_i ok;obtain⟨_,k1,k10⟩:=Fe ok;have kn:=h.k1;rw[Cb]at e;unfold kC at e;obtain⟨kd,q,p,b,s,c,vs,r,peer,seq⟩:=m;have k1:1<=kd:=k1;have k10:kd<=10:=k10;have kn:kd≠1:=kn;rcases(by omega:kd=2\/kd=3\/kd=4\/kd=5\/kd=6\/kd=7\/kd=8\/kd=9\/kd=10)with rfl|rfl|rfl|rfl|rfl|rfl|rfl|rfl|rfl
 ·have e:(dW (dn ([((2:Nat):Int)]++mQ p))).1=m':=e
  rw[kY (by decide)]at e;rw[WI]at e;subst e;exact .inl ⟨rfl,_,rfl⟩
 ·have e:(dW (dn ([((3:Nat):Int)]++eZ b.n b.id))).1=m':=e
  rw[kY (by decide)]at e;have e2:gI 3 (dn (eZ b.n b.id))=({ aO ((3:Nat):Int)with b:=⟨b.n%4294967296,b.id%256⟩ },[]):=by
   rw[rA];rw[acx,dQ (rY b.n b.id [])]
  rw[e2]at e;subst e;exact .inr ⟨rfl,by simp,by simp⟩
 ·have e:(dW (dn ([((4:Nat):Int)]++(eZ b.n b.id++([(vs.length:Int)]++(vs.map kK).flatten))))).1=m':=e
  rw[kY (by decide)]at e;have ov:nI vs=true:=by
   exact ae2 ok rfl
  obtain⟨hv,hl⟩:=h.vs rfl;have e2:gI 4 (dn (eZ b.n b.id++([(vs.length:Int)]++(vs.map kK).flatten)))=({ aO ((4:Nat):Int)with b:=⟨b.n%4294967296,b.id%256⟩,vs:=vs.map λv=>⟨v.slot%4294967296,⟨v.b.n%4294967296,v.b.id%256⟩,v.c⟩ },[]):=by
   rw[eB,rA ([(vs.length:Int)]++_)];rw[acz,dQ (rY b.n b.id _)];exact dQ (Bt (e:=kK) (g:=λv=>⟨v.slot%4294967296,⟨v.b.n%4294967296,v.b.id%256⟩,v.c⟩) (λv hv'=>RO (hv v hv').1 (abg ov v hv')) (λv=>by simp[kK,b32]) (Nat.le_trans hl (by decide)) []) _
  rw[e2]at e;subst e;exact .inr ⟨rfl,by simp,by simp⟩
 ·have e:(dW (dn ([((5:Nat):Int)]++eZ b.n b.id))).1=m':=e
  rw[kY (by decide)]at e;have e2:gI 5 (dn (eZ b.n b.id))=({ aO ((5:Nat):Int)with b:=⟨b.n%4294967296,b.id%256⟩ },[]):=by
   rw[rA];rw[acy,dQ (rY b.n b.id [])]
  rw[e2]at e;subst e;exact .inr ⟨rfl,by simp,by simp⟩
 ·have e:(dW (dn ([((6:Nat):Int)]++(eZ b.n b.id++b32 s++mR c)))).1=m':=e
  rw[kY (by decide)]at e;have oc:lh c=true:=by
   exact ae3 ok rfl
  obtain⟨hc,hs⟩:=h.acc rfl;have e2:gI 6 (dn (eZ b.n b.id++b32 s++mR c))=({ aO ((6:Nat):Int)with b:=⟨b.n%4294967296,b.id%256⟩,s:=s%4294967296,c:=c },[]):=by
   rw[eB,eB,rA (mR c),List.append_assoc];rw[acA,dQ (rY b.n b.id _),Np,dQ (DT hc oc [])]
  rw[e2]at e;subst e;exact .inr ⟨rfl,by simp,by simp⟩
 ·have e:(dW (dn ([((7:Nat):Int)]++(eZ b.n b.id++b32 s)))).1=m':=e
  rw[kY (by decide)]at e;have hs:=h.qw rfl;have e2:gI 7 (dn (eZ b.n b.id++b32 s))=({ aO ((7:Nat):Int)with b:=⟨b.n%4294967296,b.id%256⟩,s:=s%4294967296 },[]):=by
   rw[eB,rA (b32 s)];rw[acB,dQ (rY b.n b.id _),Np]
  rw[e2]at e;subst e;exact .inr ⟨rfl,by simp,by simp⟩
 ·have e:(dW (dn ([((8:Nat):Int)]++(b32 s++mR c)))).1=m':=e
  rw[kY (by decide)]at e;have oc:lh c=true:=by
   exact ae4 ok rfl
  obtain⟨hc,hs⟩:=h.dec rfl;have e2:gI 8 (dn (b32 s++mR c))=({ aO ((8:Nat):Int)with s:=s%4294967296,c:=c },[]):=by
   rw[eB,rA (mR c)];rw[acC,Np,dQ (DT hc oc [])]
  rw[e2]at e;subst e;exact .inr ⟨rfl,by simp,by simp⟩
 ·have e:(dW (dn ([((9:Nat):Int)]++ES r))).1=m':=e
  rw[kY (by decide)]at e;have orr:oU r=true:=by
   exact ae5 ok rfl
  have hm:=h.kZ rfl;have hg:jU N (kL r):=hm.2.2.2;have e2:gI 9 (dn (ES r))=({ aO ((9:Nat):Int)with r:=r },[]):=by
   rw[rA];rw[acD,dQ (Nq (x:=r) hg.r orr [])]
  rw[e2]at e;subst e;exact .inr ⟨rfl,by simp,by simp⟩
 ·have e:(dW (dn ([((10:Nat):Int)]++([peer]++b32 seq)))).1=m':=e
  rw[kY (by decide)]at e;have hm:=h.jo rfl;have hg:jU N (oz peer seq):=hm.2.2;obtain⟨x,ex,hx⟩:=U8.nat (x:=peer) hg.peer;obtain⟨y,ey,hy⟩:=rC.nat (x:=seq) hg.seq;have e2:gI 10 (dn ([peer]++b32 seq))=({ aO ((10:Nat):Int)with peer:=peer,seq:=seq },[]):=by
   rw[ex,ey,eB,rA (b32 _)];rw[abf,pW hx,KF hy]
  rw[e2]at e;subst e;exact .inr ⟨rfl,by simp,by simp⟩
theorem Vg{N n:Nat}{m m':MM}(h:MG (nQ N) n m)(hd:oG (ru m)=some m'):MG (nQ N) n m':=by
 rcases Sm h hd with⟨_,p,rfl⟩|⟨rfl,k3,k10⟩
 ·exact .tell p
 ·obtain⟨kd,q,p,b,s,c,vs,r,peer,seq⟩:=m
  unfold Bz;dsimp only;split
  ·exact .fE (.inl rfl) (ym _)
  split
  ·exact .fE (.inr rfl) (ym _)
  split
  ·rename_i e
   obtain⟨hv,hl⟩:=h.vs e;exact .promise (ym _) (λv hv'=>by obtain⟨y,hy,rfl⟩:=List.mem_map.1 hv';exact⟨(hv y hy).1,Nat.lt_of_le_of_lt (Nat.mod_le _ _) (hv y hy).2⟩) (by rw[List.length_map];exact hl)
  split
  ·rename_i e;exact .accept (ym _) (Nat.lt_of_le_of_lt (Nat.mod_le _ _) (h.acc e).2) (h.acc e).1
  split
  ·rename_i e;exact .accepted (ym _) (Nat.lt_of_le_of_lt (Nat.mod_le _ _) (h.qw e))
  split
  ·rename_i e;exact .decide (Nat.lt_of_le_of_lt (Nat.mod_le _ _) (h.dec e).2) (h.dec e).1
  split
  ·rename_i e;exact .move (h.kZ e)
  ·have k3:3<=kd:=k3
   have k10:kd<=10:=k10;exact .OX (h.jo (show kd=10 by omega))
theorem Sn(N:Nat):dL (nQ N) where
 lens:=λs h=>by
  have h:dM N _ s:=h;have:=h.ok.il;have:=h.ok.ol;exact⟨by omega,by omega,h.ok.n4⟩
 stay:=λs c _ _=>acs s c
 QX:=λg n _ _=>⟨rfl,rfl⟩
 lane:=λs h o ho r hr=>by
  have h:dM N _ s:=h;obtain⟨h1,h2⟩:=(h.o o ho).2.2.2 r hr;exact⟨h1,by have:=h2.seq.2;omega,jU.recv h2 (by have:=h.ok.gn;have:=h.n;omega)⟩
 JR:=λs h x hx=>by
  have h:dM N _ s:=h;have:=h.i x hx;have:=h.zO;omega
 Ut:=λp s h1 h2 h3 h4=>jU.ae1 ⟨h1,by omega⟩ ⟨h3,by omega⟩
 ask:=λd m h=>by
  obtain⟨h1,h2⟩:=vV h;have:=acw (IP d);rw[h2]at this;refine⟨this.1,λe=>jU.asks (this.2 e) ?_⟩;unfold fu at h1;rw[if_pos e,Bool.and_eq_true]at h1;exact h1.1
 kind:=λd m h=>(Fe (vV h).1).2
 rl:=λc h=>by
  have h:jU N c:=h;exact⟨h.r.rl,h.r.dl⟩
 rc:=λs c h hc=>(WH h hc).2
 back:=λn m m' h hd=>Vg h hd
theorem Yr:FB (nQ 1) where
 gc:=jU.asks ⟨⟨by decide,by decide⟩,⟨by decide,by decide⟩,⟨by decide,by decide⟩,⟨by decide,by decide⟩,⟨by decide,by decide⟩,⟨by decide,by decide⟩,⟨by decide,by decide⟩⟩ (by decide)
 live:=λf hf=>by
  rcases(by omega:f=0\/f=1\/f=2)with rfl|rfl|rfl
  ·kernel_rfl
  ·kernel_rfl
  ·kernel_rfl
 room:=λf hf=>by
  refine Nat.le_of_ble_eq_true ?_;rcases(by omega:f=0\/f=1\/f=2)with rfl|rfl|rfl
  ·kernel_rfl
  ·kernel_rfl
  ·kernel_rfl
theorem yn{a b:Int}(h:0<=a):a.tmod b=a%b:=Int.tmod_eq_emod_of_nonneg h
theorem Sq{k:Int}(h:iG k):iG (jV k):=by
 unfold jV;rw[yn h.1];split
 ·exact⟨by decide,by decide⟩
 ·exact⟨by omega,by omega⟩
theorem NA{q:bQ}(h:q.b):(dh q).b/\kJ (dh q)=true:=by
 have hk:=Sq h.key;have hh:=Sq h.hi;have z64:iG 0:=⟨Int.le_refl 0,by decide⟩;have z8:U8 0:=⟨Int.le_refl 0,by decide⟩;have e1:q.c.tmod 3=q.c%3:=yn h.c.1;have e2:q.s.tmod 9=q.s%9:=yn h.s.1;have e3:q.k.tmod 4=q.k%4:=yn h.k.1;have e4:q.to.tmod 4=q.to%4:=yn h.to.1;unfold dh;rw[e1,e2,e3,e4];have ha:kT (q.c%3) (1+q.s%9)=true:=by
  unfold kT;simp only[Bool.and_eq_true,decide_eq_true_eq];omega
 refine⟨⟨⟨by dsimp only;omega,by dsimp only;omega⟩,⟨by dsimp only;omega,by dsimp only;omega⟩,⟨by dsimp only;omega,by dsimp only;omega⟩,hk,?_,?_,?_⟩,?_⟩
 ·dsimp only;split
  ·exact h.v
  ·exact z64
 ·dsimp only;split
  ·split
   ·exact hk
   ·exact hh
  ·exact z64
 ·dsimp only;split
  ·exact⟨by omega,by omega⟩
  ·exact z8
 ·unfold kJ
  dsimp only;rw[ha,Bool.true_and];rcases(by omega:q.k%4=0\/q.k%4=1\/q.k%4=2\/q.k%4=3)with e|e|e|e
  ·rw[e];rfl
  ·rw[e];rfl
  ·rw[e];rfl
  ·rw[e]
   show(decide (jV q.key<=if jV q.hi<jV q.key then jV q.key else jV q.hi) && (decide (q.to%4<4) && true))=true;simp only[Bool.and_eq_true,decide_eq_true_eq,Bool.and_true];refine⟨?_,by omega⟩;split<;>omega
end
section
open Go.ChangeShapes Go.WideShapes Go.ChangeAt Go.RowKit
theorem Tryz.own:ownKnob Tryz.prog.godebug=none:=by kernel_rfl
theorem Tryz.laidOut:laidOutB Tryz.prog=true:=by kernel_rfl
theorem Vh{a:Addr}(h:a.spot=none)(n:Nat):a.add n=⟨a.block,a.off+n,none⟩:=by
 unfold Addr.add;split
 ·subst n;cases a;simp_all
 ·rfl
theorem Sr{w:World}{a:Addr}{u:Value}(h:w.cell? a=some u):a.spot=none:=by
 unfold World.cell? at h;split at h
 ·split at h
  ·cases h
  ·rename_i hs;simpa using hs
 ·cases h
section
variable{H:Type}{enc:TypeId×Value->H}{P:Program}{w:World}
theorem Su{α:Type}[Inhabited α]{t e:TypeId}{size fuel:Nat}{v:Value}{x:DataW H×List MemPlace}(f:α->List Value)(wf:α->Prop)(ht:P.underlying t=some (.slice e))(hc:P.cellsOf e=size)(hpos:0<size)
 (hel:∀n cs x,DataW.trod enc P w 0 (λ_=>true) true n e cs=some x->∃a,cs=f a/\wf a) (h:DataW.trod enc P w 0 (λ_=>true) true fuel t [v]=some x) :
 ∃(a:Option Addr) (len cap:Nat) (xs:List α),v=.slice a len cap/\YC w.heap.size w ⟨a,len,cap⟩ size (xs.map f)/\(a=none->cap=0)/\∀(i:Nat) (x:α),xs[i]? = some x->wf x:=by
 rcases Go.Deep.open_slice ht h with⟨h1,_⟩|⟨a,len,cap,m,n,D,Pl,h1,_,hl,hm,hmm,_,hx⟩
 ·simp only[List.cons.injEq,and_true]at h1
  subst h1;exact⟨none,0,0,[],rfl,⟨rfl,Nat.le_refl _,Nat.zero_le _,λh=>absurd h (Nat.lt_irrefl 0)⟩,λ_=>rfl,by simp⟩
 ·simp only[List.cons.injEq,and_true]at h1
  subst h1;have hmc:m=cap:=by simpa using hmm
  subst hmc;have hex:∀i,i<len->∃y:α,wf y/\w.cells? 0 (a.add (i*size)) size=some (f y):=λi hi=>by
   obtain⟨cs,h2,h3⟩:=hx i (by omega);obtain⟨y,rfl,hy⟩:=hel _ _ _ h3;rw[hc]at h2;exact⟨y,hy,h2⟩
  obtain⟨g,hg⟩:=Go.Deep.choose_lt hex;refine⟨some a,len,m,(List.range len).map g,rfl,⟨by simp,hl,hm,λh0=>?_⟩,(by intro h;cases h),λi x hi=>?_⟩
  ·have WJ:0<len:=h0
   have hsp:a.spot=none:=by
    obtain⟨_,h5,h6⟩:=World.cells?_some (hg 0 WJ).2;have h7:=h6 0 hpos;have h8:a.add (0*size)=a:=by unfold Addr.add;simp
    have h9:a.add 0=a:=by unfold Addr.add;simp
    rw[h8,h9]at h7;have:∃u,(f (g 0))[0]? = some u:=⟨(f (g 0))[0]'(by omega),by simp⟩;obtain⟨u,hu⟩:=this;rw[hu]at h7;exact Sr h7
   refine⟨a.block,a.off,by cases a;simp only at hsp;rw[hsp],?_,λi y hy j u hu=>?_⟩
   ·have:=World.cells?_block (hg 0 WJ).2 hpos
    have h8:a.add (0*size)=a:=by unfold Addr.add;simp
    rw[h8]at this;exact this
   ·simp only[List.map_map]at hy
    obtain⟨hi,he⟩:=List.getElem?_eq_some_iff.1 hy;have hi':i<len:=by simpa using hi
    simp at he;subst he;obtain⟨_,h5,h6⟩:=World.cells?_some (hg i hi').2;have hj:=(List.getElem?_eq_some_iff.1 hu).1;have h7:=h6 j (by omega);rw[hu,Vh hsp]at h7;unfold Addr.add at h7;split at h7
    ·subst j;exact h7
    ·exact h7
  ·obtain⟨hi',he⟩:=List.getElem?_eq_some_iff.1 hi
   have hl':i<len:=by simpa using hi'
   simp at he;subst he;exact(hg i hl').1
end
theorem wf_u64{n:Int}(h:(Lit.int .u64 n).wf=true):0<=n/\n<18446744073709551616:=by
 have h':IntKind.min .u64<=n/\n<=IntKind.max .u64:=by simpa[Lit.wf]using h
 have e1:IntKind.min .u64=0:=by decide
 have e2:IntKind.max .u64=18446744073709551615:=by decide
 omega
theorem wf_u8{n:Int}(h:(Lit.int .u8 n).wf=true):0<=n/\n<256:=by
 have h':IntKind.min .u8<=n/\n<=IntKind.max .u8:=by simpa[Lit.wf]using h
 have e1:IntKind.min .u8=0:=by decide
 have e2:IntKind.max .u8=255:=by decide
 omega
theorem wf_u32{n:Int}(h:(Lit.int .u32 n).wf=true):0<=n/\n<4294967296:=by
 have h':IntKind.min .u32<=n/\n<=IntKind.max .u32:=by simpa[Lit.wf]using h
 have e1:IntKind.min .u32=0:=by decide
 have e2:IntKind.max .u32=4294967295:=by decide
 omega
theorem Sv{H:Type}{enc:TypeId×Value->H}{W:World}{base:Nat}{sp:Nat->Bool}{held:Bool}(b:Bool):DataW.Trod enc Tryz.prog W base sp held 4 (.bool b) (.lit (.bool b)) []:=⟨1,by simp[DataW.trod,Value.cells,Tryz.underlying4]⟩
end
section
open Go Go.ChangeShapes Go.WideShapes Go.ChangeAt Go.RowKit Go.Conc
theorem zP(l:List Value)(a n b:Nat)(h:a+n=b):l.drop a=(l.drop a).take n++l.drop b:=by
 subst h;rw[<-List.drop_drop];exact(List.take_append_drop n (l.drop a)).symm
instance:Inhabited Stp:=⟨⟨0,0,0,ByteArray.empty,⟨0,0,0,0,0,0,0⟩⟩⟩
section
variable{H:Type}{enc:TypeId×Value->H}{P:Program}{w:World}
theorem lenOf{t:TypeId}{fs:Array Field}{fuel:Nat}{cs:List Value}{x:DataW H×List MemPlace}(ht:P.underlying t=some (.struct fs))(h:DataW.trod enc P w 0 (λ_=>true) true fuel t cs=some x):cs.length=P.cellsOf t:=by
 obtain⟨xs,n,_,_,hl,_,_⟩:=DataW.trod_struct ht h;exact hl
theorem fieldAt{t:TypeId}{fs:Array Field}{fuel:Nat}{cs:List Value}{x:DataW H×List MemPlace}(ht:P.underlying t=some (.struct fs))(h:DataW.trod enc P w 0 (λ_=>true) true fuel t cs=some x)(i:Nat)(f:Field)(hf:fs[i]? = some f) :
 ∃y n,DataW.trod enc P w 0 (λ_=>true) true n f.type ((cs.drop f.offset).take (P.cellsOf f.type))=some y/\True:=by
 obtain⟨xs,n,_,rfl,_,hl,hx⟩:=DataW.trod_struct ht h;have hi:i<xs.length:=by rw[hl];exact(Array.getElem?_eq_some_iff.1 hf).1
 have hy:xs[i]? = some xs[i]:=List.getElem?_eq_getElem hi;exact⟨xs[i],n,(hx i f hf).trans hy,trivial⟩
end
theorem wf_i64{n:Int}(h:(Lit.int .i64 n).wf=true):wW n:=by
 have h':IntKind.min .i64<=n/\n<=IntKind.max .i64:=by simpa[Lit.wf]using h
 have e1:IntKind.min .i64 = -9223372036854775808:=by decide
 have e2:IntKind.max .i64=9223372036854775807:=by decide
 unfold wW;omega
structure Stp.w(t:Stp):Prop where
 kind:wW t.kind
 a:wW t.a
 b:wW t.b
 q:t.q.b
theorem Stp.w.wf{t:Stp}(h:t.w)(N:Nat):t.wf (nQ N):=⟨h.kind,h.a,h.b,h.q.s.1,h.q.k.1,jU.asks (NA h.q).1 (NA h.q).2⟩
section
variable{H:Type}{enc:TypeId×Value->H}{w:World}
theorem Sy{n:Nat}{cs:List Value}{x:DataW H×List MemPlace}(h:DataW.trod enc Tryz.prog w 0 (λ_=>true) true n 50 cs=some x):∃r:bQ,cs=r.cells/\r.b:=by
 have hl:=lenOf Tryz.underlying50 h;rw[(by kernel_rfl:Tryz.prog.cellsOf 50=7)]at hl;have hd:cs.drop 7=[]:=List.drop_of_length_le (by omega);obtain⟨y0,n0,g0,u0⟩:=fieldAt Tryz.underlying50 h 0 _ rfl;replace g0:DataW.trod enc Tryz.prog w 0 (λ_=>true) true n0 5 ((cs.drop 0).take (Tryz.prog.cellsOf 5))=some y0:=g0;rw[(by kernel_rfl:Tryz.prog.cellsOf 5=1)]at g0;obtain⟨a0,e0,_,w0⟩:=DataW.trod_int Tryz.underlying5 g0;have v0:=wf_u8 w0;obtain⟨y1,n1,g1,u1⟩:=fieldAt Tryz.underlying50 h 1 _ rfl;replace g1:DataW.trod enc Tryz.prog w 0 (λ_=>true) true n1 47 ((cs.drop 1).take (Tryz.prog.cellsOf 47))=some y1:=g1;rw[(by kernel_rfl:Tryz.prog.cellsOf 47=1)]at g1;obtain⟨a1,e1,_,w1⟩:=DataW.trod_int Tryz.underlying47 g1;have v1:=wf_u32 w1;obtain⟨y2,n2,g2,u2⟩:=fieldAt Tryz.underlying50 h 2 _ rfl;replace g2:DataW.trod enc Tryz.prog w 0 (λ_=>true) true n2 5 ((cs.drop 2).take (Tryz.prog.cellsOf 5))=some y2:=g2;rw[(by kernel_rfl:Tryz.prog.cellsOf 5=1)]at g2;obtain⟨a2,e2,_,w2⟩:=DataW.trod_int Tryz.underlying5 g2;have v2:=wf_u8 w2;obtain⟨y3,n3,g3,u3⟩:=fieldAt Tryz.underlying50 h 3 _ rfl;replace g3:DataW.trod enc Tryz.prog w 0 (λ_=>true) true n3 48 ((cs.drop 3).take (Tryz.prog.cellsOf 48))=some y3:=g3;rw[(by kernel_rfl:Tryz.prog.cellsOf 48=1)]at g3;obtain⟨a3,e3,_,w3⟩:=DataW.trod_int Tryz.underlying48 g3;have v3:=wf_u64 w3;obtain⟨y4,n4,g4,u4⟩:=fieldAt Tryz.underlying50 h 4 _ rfl;replace g4:DataW.trod enc Tryz.prog w 0 (λ_=>true) true n4 48 ((cs.drop 4).take (Tryz.prog.cellsOf 48))=some y4:=g4;rw[(by kernel_rfl:Tryz.prog.cellsOf 48=1)]at g4;obtain⟨a4,e4,_,w4⟩:=DataW.trod_int Tryz.underlying48 g4;have v4:=wf_u64 w4;obtain⟨y5,n5,g5,u5⟩:=fieldAt Tryz.underlying50 h 5 _ rfl;replace g5:DataW.trod enc Tryz.prog w 0 (λ_=>true) true n5 48 ((cs.drop 5).take (Tryz.prog.cellsOf 48))=some y5:=g5;rw[(by kernel_rfl:Tryz.prog.cellsOf 48=1)]at g5;obtain⟨a5,e5,_,w5⟩:=DataW.trod_int Tryz.underlying48 g5;have v5:=wf_u64 w5;obtain⟨y6,n6,g6,u6⟩:=fieldAt Tryz.underlying50 h 6 _ rfl;replace g6:DataW.trod enc Tryz.prog w 0 (λ_=>true) true n6 5 ((cs.drop 6).take (Tryz.prog.cellsOf 5))=some y6:=g6;rw[(by kernel_rfl:Tryz.prog.cellsOf 5=1)]at g6;obtain⟨a6,e6,_,w6⟩:=DataW.trod_int Tryz.underlying5 g6;have v6:=wf_u8 w6;have hcs:cs=[.int .u8 a0,.int .u32 a1,.int .u8 a2,.int .u64 a3,.int .u64 a4,.int .u64 a5,.int .u8 a6]:=by
  show cs.drop 0=_;rw[zP cs 0 1 1 rfl,e0,zP cs 1 1 2 rfl,e1,zP cs 2 1 3 rfl,e2,zP cs 3 1 4 rfl,e3,zP cs 4 1 5 rfl,e4,zP cs 5 1 6 rfl,e5,zP cs 6 1 7 rfl,e6,hd];rfl
 exact⟨⟨a0,a1,a2,a3,a4,a5,a6⟩,hcs,⟨v0,v1,v2,v3,v4,v5,v6⟩⟩
theorem step_cells{n:Nat}{cs:List Value}{x:DataW H×List MemPlace}(h:DataW.trod enc Tryz.prog w 0 (λ_=>true) true n 158 cs=some x):∃t:Stp,cs=t.cells/\t.w:=by
 have hl:=lenOf Tryz.underlying158 h;rw[(by kernel_rfl:Tryz.prog.cellsOf 158=11)]at hl;have hd:cs.drop 11=[]:=List.drop_of_length_le (by omega);obtain⟨y0,n0,g0,u0⟩:=fieldAt Tryz.underlying158 h 0 _ rfl;replace g0:DataW.trod enc Tryz.prog w 0 (λ_=>true) true n0 3 ((cs.drop 0).take (Tryz.prog.cellsOf 3))=some y0:=g0;rw[(by kernel_rfl:Tryz.prog.cellsOf 3=1)]at g0;obtain⟨a0,e0,_,w0⟩:=DataW.trod_int Tryz.underlying3 g0;have v0:=wf_i64 w0;obtain⟨y1,n1,g1,u1⟩:=fieldAt Tryz.underlying158 h 1 _ rfl;replace g1:DataW.trod enc Tryz.prog w 0 (λ_=>true) true n1 3 ((cs.drop 1).take (Tryz.prog.cellsOf 3))=some y1:=g1;rw[(by kernel_rfl:Tryz.prog.cellsOf 3=1)]at g1;obtain⟨a1,e1,_,w1⟩:=DataW.trod_int Tryz.underlying3 g1;have v1:=wf_i64 w1;obtain⟨y2,n2,g2,u2⟩:=fieldAt Tryz.underlying158 h 2 _ rfl;replace g2:DataW.trod enc Tryz.prog w 0 (λ_=>true) true n2 3 ((cs.drop 2).take (Tryz.prog.cellsOf 3))=some y2:=g2;rw[(by kernel_rfl:Tryz.prog.cellsOf 3=1)]at g2;obtain⟨a2,e2,_,w2⟩:=DataW.trod_int Tryz.underlying3 g2;have v2:=wf_i64 w2;obtain⟨y3,n3,g3,u3⟩:=fieldAt Tryz.underlying158 h 3 _ rfl;replace g3:DataW.trod enc Tryz.prog w 0 (λ_=>true) true n3 9 ((cs.drop 3).take (Tryz.prog.cellsOf 9))=some y3:=g3;rw[(by kernel_rfl:Tryz.prog.cellsOf 9=1)]at g3;obtain⟨a3,e3,_,w3⟩:=DataW.trod_string Tryz.underlying9 g3;obtain⟨y4,n4,g4,u4⟩:=fieldAt Tryz.underlying158 h 4 _ rfl;replace g4:DataW.trod enc Tryz.prog w 0 (λ_=>true) true n4 50 ((cs.drop 4).take (Tryz.prog.cellsOf 50))=some y4:=g4;rw[(by kernel_rfl:Tryz.prog.cellsOf 50=7)]at g4;obtain⟨r,e4,v4⟩:=Sy g4;have hcs:cs=[.int .i64 a0,.int .i64 a1,.int .i64 a2,.string a3]++r.cells:=by
  show cs.drop 0=_;rw[zP cs 0 1 1 rfl,e0,zP cs 1 1 2 rfl,e1,zP cs 2 1 3 rfl,e2,zP cs 3 1 4 rfl,e3,zP cs 4 7 11 rfl,e4,hd];rfl
 exact⟨⟨a0,a1,a2,a3,r⟩,hcs,⟨v0,v1,v2,v4⟩⟩
end
theorem KU{n:Nat}{cs:List Value}:∀{xs:List (List Value)} {off:Nat},(∀x∈xs,x.length=n)->(∀(i:Nat) (x:List Value),xs[i]? = some x->∀(j:Nat) (u:Value),x[j]? = some u->cs[off+i*n+j]? = some u)->aJ cs off (xs.length*n)=xs.flatten
 | [],off,_,_=>by simp[aJ]
 |x::xs,off,hl,h=>by
  have hx:x.length=n:=hl x List.mem_cons_self;have ih:=KU (n:=n) (cs:=cs) (xs:=xs) (off:=off+n) (λy hy=>hl y (List.mem_cons_of_mem _ hy)) λi y hy j u hu=>by
   have:=h (i+1) y (by simpa using hy) j u hu;rw[Nat.add_mul,Nat.one_mul]at this;rw[<-this];congr 1;omega
  have e:(cs.drop off).take n=x:=by
   refine List.ext_getElem? λj=>?_
   rw[List.getElem?_take];by_cases hj:j<n
   ·rw[if_pos hj,List.getElem?_drop]
    have hu:x[j]? = some (x[j]'(by omega)):=List.getElem?_eq_getElem (by omega);rw[hu];have:=h 0 x rfl j _ hu;rwa [Nat.zero_mul,Nat.add_zero]at this
   ·rw[if_neg hj,List.getElem?_eq_none (by omega)]
  unfold aJ at ih |-;rw[List.length_cons,Nat.add_mul,Nat.one_mul,Nat.add_comm,List.take_add,e,List.drop_drop,ih,List.flatten_cons]
theorem Yt{W:World}{a:Option Addr}{len cap:Nat}{l:List Stp}(h:YC W.heap.size W ⟨a,len,cap⟩ 11 (l.map Stp.cells)):len=l.length/\l.length<=9223372036854775807/\FzZ W 11 (.slice a l.length cap) l.length (l.map Stp.cells).flatten:=by
 have e1:len=l.length:=by have:=h.len;simpa using this
 have h2:len<=cap:=h.le;have h3:cap<=maxLen:=h.max;have e3:maxLen=9223372036854775807:=by decide
 have hlen:∀x∈l.map Stp.cells,x.length=11:=λx hx=>by
  obtain⟨t,_,rfl⟩:=List.mem_map.1 hx;rfl
 refine⟨e1,by omega,a,cap,rfl,by omega,?_,?_⟩
 ·have:∀(xs:List (List Value)),(∀x∈xs,x.length=11)->xs.flatten.length=xs.length*11:=λxs=>by
   induction xs with
   |nil=>intro _;rfl
   |cons x xs ih =>
    intro hx;rw[List.flatten_cons,List.length_append,ih (λy hy=>hx y (List.mem_cons_of_mem _ hy)),hx x List.mem_cons_self,List.length_cons];omega
  rw[this _ hlen,List.length_map]
 ·by_cases h0:l.length=0
  ·exact .inl h0
  ·obtain⟨b,off,ha,hb,hc⟩:=h.at' (by show 0<len;omega)
   have ha:a=some ⟨b,off,none⟩:=ha;obtain⟨t,ht⟩:∃t,l[0]? = some t:=⟨l[0],by simp[show 0<l.length by omega]⟩;have hc0:=hc 0 t.cells (by rw[List.getElem?_map,ht];rfl) 0 (.int .i64 t.kind) rfl;cases ho:W.heap[b]? with
   |none=>simp[World.cell?,ho]at hc0
   |some o =>
    cases o with
    |cells cs ty z =>
     refine .inr ⟨b,off,cs,ty,z,ha,ho,?_⟩;have:=KU (cs:=cs.toList) (xs:=l.map Stp.cells) (off:=off) hlen λi x hx j u hu=>by
      have:=hc i x hx j u hu;rw[cell_of_row W b _ cs ty z ho]at this;rw[Array.getElem?_toList];exact this
     rwa [List.length_map]at this
    |_=>simp[World.cell?,ho]at hc0
end
section
open Go Go.Conc
def bF.L(a b:bF):Prop:=a.n<b.n\/a.n=b.n/\a.id<b.id
def bF.E(a b:bF):Prop:=a.n<b.n\/a.n=b.n/\a.id<=b.id
section
variable{a b c:bF}
theorem bF.abh:a.lt b=true↔a.L b:=by unfold bF.lt bF.L;simp
theorem bF.WK(h:¬a.L b):b.E a:=by unfold bF.L at h;unfold bF.E;omega
theorem bF.not_lt(h:¬a.lt b=true):b.E a:=bF.WK λk=>h (bF.abh.2 k)
theorem bF.E.refl(a:bF):a.E a:=.inr ⟨rfl,Nat.le_refl _⟩
theorem bF.E.trans(h:a.E b)(k:b.E c):a.E c:=by unfold bF.E at *;omega
theorem bF.L.e(h:a.L b):a.E b:=by unfold bF.E;unfold bF.L at h;omega
theorem bF.L.le(h:a.L b)(k:b.E c):a.L c:=by unfold bF.E at k;unfold bF.L at *;omega
theorem bF.L.no(h:a.L b)(k:b.E a):False:=by unfold bF.E at k;unfold bF.L at h;omega
theorem bF.ext'(h:a.n=b.n)(k:a.id=b.id):a=b:=by cases a;cases b;cases h;cases k;rfl
theorem bF.E.cases(h:a.E b):a=b\/a.L b:=by
 by_cases e:a.n=b.n/\a.id=b.id
 ·exact .inl (bF.ext' e.1 e.2)
 ·exact .inr (by unfold bF.E at h;unfold bF.L;omega)
end
def Most(sz:Nat)(p:Nat->Prop):Prop:=∃m:Nat,2*pc m > sz/\∀k,k<5->m.testBit k=true->k<sz/\p k
theorem FC{α:Type}{p q r:α->Bool}:∀{l:List α},(∀x∈l,p x=true->q x=true->False)->(∀x∈l,p x=true\/q x=true->r x=true)->l.countP p+l.countP q<=l.countP r
 | [],_,_=>Nat.le_refl _
 |x::l,h1,h2=>by
  have ih:=FC (l:=l) (λy hy=>h1 y (List.mem_cons_of_mem _ hy)) (λy hy=>h2 y (List.mem_cons_of_mem _ hy));have a1:=h1 x List.mem_cons_self;have a2:=h2 x List.mem_cons_self;simp only[List.countP_cons];cases hp:p x<;>cases hq:q x<;>cases hr:r x<;>simp_all<;>omega
theorem KV(sz:Nat):∀n,(List.range n).countP (λk=>decide (k<sz))<=sz
 |0=>Nat.zero_le _
 |n+1=>by
  have ih:=KV sz n;rw[List.range_succ,List.countP_append];by_cases h:n<sz
  ·have:(List.range n).countP (λk=>decide (k<sz))<=n:=by have:=List.countP_le_length (p:=λk=>decide (k<sz)) (l:=List.range n);simpa using this
   simp[h];omega
  ·simp[h];omega
theorem Most.meet{sz:Nat}{p q:Nat->Prop}(h:Most sz p)(k:Most sz q):∃i,p i/\q i:=by
 obtain⟨m,h1,h2⟩:=h;obtain⟨n,k1,k2⟩:=k;refine Classical.byContradiction λno=>?_
 have:=FC (p:=λi=>m.testBit i) (q:=λi=>n.testBit i) (r:=λi=>decide (i<sz)) (l:=List.range 5) (λi hi a b=>no ⟨i,(h2 i (List.mem_range.1 hi) a).2,(k2 i (List.mem_range.1 hi) b).2⟩) (λi hi a=>decide_eq_true (a.elim (λa=>(h2 i (List.mem_range.1 hi) a).1) (λa=>(k2 i (List.mem_range.1 hi) a).1)));have:=KV sz 5;unfold pc at h1 k1;omega
theorem Most.mono{sz:Nat}{p q:Nat->Prop}(h:Most sz p)(k:∀i,p i->q i):Most sz q:=by
 obtain⟨m,h1,h2⟩:=h;exact⟨m,h1,λi hi hm=>⟨(h2 i hi hm).1,k i (h2 i hi hm).2⟩⟩
theorem Ik{c r k:Nat}(h:(iX c r).testBit k=true):c.testBit k=true\/k=r:=by
 unfold iX at h;rw[Nat.testBit_or,Nat.one_shiftLeft,Nat.testBit_two_pow]at h;simp only[Bool.or_eq_true,decide_eq_true_eq]at h;exact h.imp id Eq.symm
structure Gh where
 P:bF->Nat->Option MC
 V:Nat->bF->Nat->Prop
 B:Nat->bF
def Gh.Safe(sz:Nat)(Γ:Gh)(b:bF)(s:Nat)(c:MC):Prop:=∀b':bF,b'.L b->Most sz λk=>b'.L (Γ.B k)/\(Γ.V k b' s->Γ.P b' s=some c)
def Gh.D(sz:Nat)(Γ:Gh)(s:Nat)(c:MC):Prop:=∃b,Γ.P b s=some c/\Most sz λk=>Γ.V k b s
structure Gh.Ok(sz:Nat)(U:MC->Prop)(Γ:Gh):Prop where
 vp:∀{i b s},Γ.V i b s->i<sz/\b.E (Γ.B i)/\∃c,Γ.P b s=some c
 pb:∀{b s c},Γ.P b s=some c->b.E (Γ.B b.id)/\b.n<=4294967295/\b.id<256
 safe:∀{b s c},Γ.P b s=some c->Γ.Safe sz b s c
 wh:∀{b s c},Γ.P b s=some c->U c/\s<60
structure Ext(Γ Γ':Gh):Prop where
 P:∀{b s c},Γ.P b s=some c->Γ'.P b s=some c
 V:∀{k b s},Γ.V k b s->Γ'.V k b s
 B:∀k,(Γ.B k).E (Γ'.B k)
 late:∀{k b s},Γ'.V k b s->b.L (Γ.B k)->Γ.V k b s
structure wX(i:Nat)(Γ Γ':Gh):Prop extends Ext Γ Γ' where
 P':∀{b s},b.id≠i->Γ'.P b s=Γ.P b s
 V':∀{k b s},k≠i->Γ'.V k b s->Γ.V k b s
 B':∀{k},k≠i->Γ'.B k=Γ.B k
section
variable{sz:Nat}{U:MC->Prop}{Γ Γ' Γ'':Gh}
theorem Gh.Ok.one(h:Γ.Ok sz U){s:Nat}{c c':MC}(h1:Γ.D sz s c)(h2:Γ.D sz s c'):c=c':=by
 obtain⟨b,p1,m1⟩:=h1;obtain⟨b',p2,m2⟩:=h2;by_cases e:b.L b'
 ·obtain⟨k,⟨_,a1⟩,a2⟩:=(h.safe p2 b e).meet m1
  have:=(a1 a2).symm.trans p1;cases this;rfl
 ·rcases(bF.WK e).cases with rfl|e
  ·cases p1.symm.trans p2;rfl
  ·obtain⟨k,⟨_,a1⟩,a2⟩:=(h.safe p1 b' e).meet m2
   have:=(a1 a2).symm.trans p2;cases this;rfl
theorem Gh.Ok.mono{U':MC->Prop}(h:Γ.Ok sz U)(k:∀c,U c->U' c):Γ.Ok sz U':=⟨h.vp,h.pb,h.safe,λp=>⟨k _ (h.wh p).1,(h.wh p).2⟩⟩
def DL(sz:Nat)(Γ:Gh)(l:List MC):Prop:=∀(k:Nat) (c:MC),l[k]? = some c->Γ.D sz k c
theorem Ext.refl(Γ:Gh):Ext Γ Γ:=⟨λh=>h,λh=>h,λ_=>.refl _,λh _=>h⟩
theorem Ext.trans(h:Ext Γ Γ')(k:Ext Γ' Γ''):Ext Γ Γ'':=⟨λx=>k.P (h.P x),λx=>k.V (h.V x),λi=>(h.B i).trans (k.B i),λx l=>h.late (k.late x (l.le (h.B _))) l⟩
theorem wX.refl(i:Nat)(Γ:Gh):wX i Γ Γ:=⟨.refl _,λ_=>rfl,λ_ h=>h,λ_=>rfl⟩
theorem wX.trans{i:Nat}(h:wX i Γ Γ')(k:wX i Γ' Γ''):wX i Γ Γ'':=⟨h.toExt.trans k.toExt,λe=>(k.P' e).trans (h.P' e),λe x=>h.V' e (k.V' e x),λe=>(k.B' e).trans (h.B' e)⟩
theorem Gh.Safe.ext(e:Ext Γ Γ'){b:bF}{s:Nat}{c:MC}(h:Γ.Safe sz b s c):Γ'.Safe sz b s c:=λb' l=>(h b' l).mono λk ⟨h1,h2⟩=>⟨h1.le (e.B k),λv=>e.P (h2 (e.late v h1))⟩
theorem Gh.D.ext(e:Ext Γ Γ'){s:Nat}{c:MC}(h:Γ.D sz s c):Γ'.D sz s c:=by
 obtain⟨b,h1,h2⟩:=h;exact⟨b,e.P h1,h2.mono λ_=>e.V⟩
theorem DL.ext(e:Ext Γ Γ'){l:List MC}(h:DL sz Γ l):DL sz Γ' l:=λk c hk=>(h k c hk).ext e
end
def Gh.add(Γ:Gh)(i:Nat)(b:bF)(s:Nat)(c:MC):Gh:=⟨λb' s'=>if b'=b/\s'=s then some c else Γ.P b' s',λk b' s'=>(k=i/\b'=b/\s'=s)\/Γ.V k b' s',Γ.B⟩
def Gh.rise(Γ:Gh)(i:Nat)(b:bF):Gh:=⟨Γ.P,Γ.V,λk=>if k=i then b else Γ.B k⟩
section
variable{sz:Nat}{U:MC->Prop}{Γ:Gh}{i:Nat}{b:bF}
theorem Gh.acE{s:Nat}{c:MC}(h:Γ.P b s=none\/Γ.P b s=some c){b':bF}{s':Nat}{c':MC}(k:Γ.P b' s'=some c'):(Γ.add i b s c).P b' s'=some c':=by
 unfold Gh.add;show(if _ then _ else _)=_;split
 ·rename_i e
  obtain⟨rfl,rfl⟩:=e;rcases h with h|h
  ·rw[h]at k;cases k
  ·exact h.symm.trans k
 ·exact k
theorem Gh.zz{s:Nat}{c:MC}(h:Γ.P b s=none/\b.id=i\/Γ.P b s=some c)(hb:Γ.B i=b):wX i Γ (Γ.add i b s c):=by
 have h':Γ.P b s=none\/Γ.P b s=some c:=h.imp (λh=>h.1) λh=>h
 refine⟨⟨λk=>Gh.acE h' k,λv=>.inr v,λ_=>.refl _,λv l=>?_⟩,λ{b' s'} e=>?_,λe v=>?_,λ_=>rfl⟩
 ·rcases v with⟨rfl,rfl,rfl⟩|v
  ·rw[hb]at l;exact(l.no (.refl _)).elim
  ·exact v
 ·show(if _ then _ else _)=_
  split
  ·rename_i f
   obtain⟨rfl,rfl⟩:=f;rcases h with h|h
   ·exact(e h.2).elim
   ·exact h.symm
  ·rfl
 ·rcases v with⟨f,_⟩|v
  ·exact(e f).elim
  ·exact v
theorem Gh.Ok.add(o:Γ.Ok sz U){s:Nat}{c:MC}(h:Γ.P b s=none/\b.id=i\/Γ.P b s=some c)(hb:Γ.B i=b)(hi:i<sz)(h8:b.n<=4294967295/\b.id<256)(hs:Γ.Safe sz b s c)(hU:U c/\s<60):(Γ.add i b s c).Ok sz U:=by
 have e:=(Gh.zz h hb).toExt;refine⟨λv=>?_,λ{b' s' c'} p=>?_,λ{b' s' c'} p=>?_,λ{b' s' c'} p=>?_⟩
 ·rcases v with⟨rfl,rfl,rfl⟩|v
  ·exact⟨hi,by show bF.E _ (Γ.B _);rw[hb];exact .refl _,c,if_pos ⟨rfl,rfl⟩⟩
  ·obtain⟨a1,a2,c',a3⟩:=o.vp v
   exact⟨a1,a2,c',e.P a3⟩
 ·replace p:(if b'=b/\s'=s then some c else Γ.P b' s')=some c':=p
  split at p
  ·rename_i f
   obtain⟨rfl,rfl⟩:=f;refine⟨?_,h8⟩;show bF.E b' (Γ.B b'.id);rcases h with h|h
   ·rw[h.2,hb];exact .refl _
   ·exact(o.pb h).1
  ·exact o.pb p
 ·replace p:(if b'=b/\s'=s then some c else Γ.P b' s')=some c':=p
  split at p
  ·rename_i f
   obtain⟨rfl,rfl⟩:=f;cases p
   exact hs.ext e
  ·exact(o.safe p).ext e
 ·replace p:(if b'=b/\s'=s then some c else Γ.P b' s')=some c':=p
  split at p
  ·rename_i f;obtain⟨rfl,rfl⟩:=f;cases p;exact hU
  ·exact o.wh p
theorem Gh.wZ(h:(Γ.B i).E b):wX i Γ (Γ.rise i b):=by
 refine⟨⟨λh=>h,λh=>h,λk=>?_,λh _=>h⟩,λ_=>rfl,λ_ h=>h,λe=>if_neg e⟩;show bF.E _ (if _ then _ else _);split
 ·rename_i e;subst e;exact h
 ·exact .refl _
theorem Gh.Ok.rise(o:Γ.Ok sz U)(h:(Γ.B i).E b):(Γ.rise i b).Ok sz U:=by
 have e:=(Gh.wZ h).toExt;refine⟨λv=>?_,λp=>?_,λp=>(o.safe p).ext e,λp=>o.wh p⟩
 ·obtain⟨a1,a2,a3⟩:=o.vp v
  exact⟨a1,a2.trans (e.B _),a3⟩
 ·obtain⟨a1,a2⟩:=o.pb p
  exact⟨a1.trans (e.B _),a2⟩
theorem Gh.Sz:(Γ.rise i b).B i=b:=if_pos rfl
end
end
