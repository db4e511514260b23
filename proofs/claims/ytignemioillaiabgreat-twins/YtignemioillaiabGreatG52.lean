/- sameShard. -/
import Derived.Test.YtignemioillaiabGreatG51
import Derived.Conc.Holds
namespace Go.Proofs.YtignemioillaiabGreat
set_option maxHeartbeats 8000000
set_option maxRecDepth 100000
section
open Go Go.Conc
theorem QT {l:List Int} {k:Nat} {x:Int} (h:l[k]? = some x):aO (l.map fun i=>Value.int .u32 i) (k*1) 1=[Value.int .u32 x]:=by
 have hk:k<l.length:=(List.getElem?_eq_some_iff.1 h).1;unfold aO;rw [Nat.mul_one,← List.map_drop,← List.map_take,List.take_one,List.head?_drop,h];rfl
theorem QU {l:List Value} {d:Nat} {a:Value} (h:aO l d 1=[a]):l[d]? = some a:=by
 have h0:=congrArg (fun l=>l[0]?) h;unfold aO at h0;simp only [List.getElem?_take,List.getElem?_drop] at h0;simpa using h0
theorem OA (w:World) {s:St} {v1 v2:Value} (h1:Jq w v1 s) (h2:Jq w v2 s) (hb:StB s):af Tryz.prog 27 #[v1,v2] w (fun x w'=>x=.bool true∧GB none w w'):=by
 obtain ⟨T,M,D,O,I,rfl,h1⟩:=h1;obtain ⟨T',M',D',O',I',rfl,h2⟩:=h2;have h1':=h1;have h2':=h2;obtain ⟨ta,tc,rfl,t1,t2,t3⟩:=h1.T;obtain ⟨ta',tc',rfl,t1',t2',t3'⟩:=h2.T;obtain ⟨ma,mc,rfl,p1,p2,p3⟩:=h1.M;obtain ⟨ma',mc',rfl,p1',p2',p3'⟩:=h2.M;obtain ⟨da,dc,rfl,d1,d2,d3⟩:=h1.D;obtain ⟨ig,ik,rfl,d1',d2',d3'⟩:=h2.D;obtain ⟨ia,ic,rfl,i1,i2,i3⟩:=h1.I;obtain ⟨ia',ic',rfl,i1',i2',i3'⟩:=h2.I;obtain ⟨oa,oc,rfl⟩:∃ a c,O=.slice a s.O.length c:=by obtain ⟨qs,_,⟨a,c,h,_⟩,_⟩:=h1.O;exact ⟨a,c,h⟩
 obtain ⟨Yt,Yu,rfl⟩:∃ a c,O'=.slice a s.O.length c:=by obtain ⟨qs,_,⟨a,c,h,_⟩,_⟩:=h2.O;exact ⟨a,c,h⟩
 have hb0:=hb;obtain ⟨bT,bM,bD,bO,bI,_⟩:=hb;refine Ae au Tryz.func27 rfl rfl ?_;obtain ⟨X1,hX1⟩:∃ X:List Value,X=[.int .u8 s.g,.int .u8 s.n,.slice ta s.T.length tc,.slice ma s.M.length mc,.slice da s.D.length dc,.slice oa s.O.length oc,.slice ia s.I.length ic]:=⟨_,rfl⟩;obtain ⟨X2,hX2⟩:∃ X:List Value,X=[.int .u8 s.g,.int .u8 s.n,.slice ta' s.T.length tc',.slice ma' s.M.length mc',.slice ig s.D.length ik,.slice Yt s.O.length Yu,.slice ia' s.I.length ic']:=⟨_,rfl⟩;refine CS.piece (Q:=fun q w2=>∃ b1 b2,q=[(2,.pointer (some ⟨b1,0,none⟩)),(3,.pointer (some ⟨b2,0,none⟩))]∧w2.heap[b1]? = some (.cells X1.toArray 55)∧w2.heap[b2]? = some (.cells X2.toArray 55)∧GB none w w2) (CS.of au mixed ?_) ?_
 ·refine fun w1 b1 m1 g1 l1 w2 b2 m2 g2 l2=>?_
  exact ⟨_,by exact ⟨rfl,rfl,trivial⟩,b1,b2,rfl,by rw [hX1];exact g2.get m1 nofun,by rw [hX2];exact m2,g1.trans g2⟩
 rintro q w2 ⟨b1,b2,rfl,m1,m2,G⟩;subst hX1;subst hX2;refine CS.piece (Q:=fun q w'=>q=[(2,.pointer (some ⟨b1,0,none⟩)),(3,.pointer (some ⟨b2,0,none⟩))]∧w'=w2) (CS.of au mixed ?_) ?_
 ·refine ⟨_,_,m1,_,rfl,_,_,m2,_,rfl,aj (fun _=>?_) (fun e=>rC e)⟩
  refine ⟨_,_,m1,_,rfl,_,_,m2,_,rfl,aj (fun _=>?_) (fun e=>rC e)⟩;refine ⟨_,_,m1,_,rfl,_,_,m2,_,rfl,aj (fun _=>?_) (fun e=>rC e)⟩;refine ⟨_,_,m1,_,rfl,_,_,m2,_,rfl,aj (fun _=>?_) (fun e=>rC e)⟩;refine ⟨_,_,m1,_,rfl,_,_,m2,_,rfl,aj (fun _=>?_) (fun e=>rC e)⟩;refine ⟨_,_,m1,_,rfl,_,_,m2,_,rfl,aj (fun _=>?_) (fun e=>rC e)⟩;refine ⟨_,_,m1,_,rfl,_,_,m2,_,rfl,aj (fun e=>Bo e) (fun _=>?_)⟩;exact ⟨_,by exact ⟨rfl,rfl,trivial⟩,rfl,rfl⟩
 rintro q w2 ⟨rfl,rfl⟩;refine CS.piece (Q:=fun q w'=>q=[(2,.pointer (some ⟨b1,0,none⟩)),(3,.pointer (some ⟨b2,0,none⟩))]∧w'=w2) (CS.of au mixed ?_) ?_
 ·refine ⟨fun q s0 w3=>∃ k:Nat,q=s.T.length - k∧k≤s.T.length∧s0=[(2,.pointer (some ⟨b1,0,none⟩)),(3,.pointer (some ⟨b2,0,none⟩)),(5,.int .i64 k)]∧w3=w2,⟨_,_,⟨0,rfl,Nat.zero_le _,rfl,rfl⟩,rfl,rfl,rfl,trivial⟩,?_⟩
  rintro q s0 w2 ⟨k,rfl,hk,rfl,rfl⟩;refine ⟨_,_,m1,_,rfl,aj (fun e=>?_) (fun e=>?_)⟩
  ·have hd:k<s.T.length:=by have:=of_decide_eq_true e;omega
   rcases t3 with ⟨_,h0⟩ | ⟨B,off,cs,rfl,hB,hcut⟩
   ·omega
   rcases t3' with ⟨_,h0⟩ | ⟨B',off',cs',rfl,hB',hcut'⟩
   ·omega
   obtain ⟨x,hx⟩:∃ x,s.T[k]? = some x:=⟨s.T[k],by simp [hd]⟩;refine ⟨by kernel_rfl,_,_,m1,_,rfl,⟨by omega,by omega⟩,_,_,G.get hB nofun,x.cells,(Fz.elem hcut hd).trans (EA hx),rfl,_,_,m2,_,rfl,⟨by omega,by omega⟩,_,_,G.get hB' nofun,x.cells,(Fz.elem hcut' hd).trans (EA hx),rfl,aj (fun d=>?_) (fun d=>?_)⟩
   ·exact absurd (show (!(iT x x))=true from d) (by rw [AL];decide)
   ·exact ⟨⟨by omega,by omega⟩,_,_,⟨k+1,rfl,by omega,rfl,rfl⟩,⟨rfl,rfl,rfl,trivial⟩,by omega⟩
  ·exact ⟨_,by exact ⟨rfl,rfl,trivial⟩,rfl,rfl⟩
 rintro q w2 ⟨rfl,rfl⟩;refine CS.piece (Q:=fun q w'=>q=[(2,.pointer (some ⟨b1,0,none⟩)),(3,.pointer (some ⟨b2,0,none⟩))]∧w'=w2) (CS.of au mixed ?_) ?_
 ·refine ⟨fun q s0 w3=>∃ k:Nat,q=s.M.length - k∧k≤s.M.length∧s0=[(2,.pointer (some ⟨b1,0,none⟩)),(3,.pointer (some ⟨b2,0,none⟩)),(6,.int .i64 k)]∧w3=w2,⟨_,_,⟨0,rfl,Nat.zero_le _,rfl,rfl⟩,rfl,rfl,rfl,trivial⟩,?_⟩
  rintro q s0 w2 ⟨k,rfl,hk,rfl,rfl⟩;refine ⟨_,_,m1,_,rfl,aj (fun e=>?_) (fun e=>?_)⟩
  ·have hd:k<s.M.length:=by have:=of_decide_eq_true e;omega
   rcases p3 with ⟨_,h0⟩ | ⟨B,off,cs,rfl,hB,hcut⟩
   ·omega
   rcases p3' with ⟨_,h0⟩ | ⟨B',off',cs',rfl,hB',hcut'⟩
   ·omega
   obtain ⟨x,hx⟩:∃ x,s.M[k]? = some x:=⟨s.M[k],by simp [hd]⟩;refine ⟨by kernel_rfl,_,_,m1,_,rfl,⟨by omega,by omega⟩,_,_,G.get hB nofun,x.cells,(Fz.elem hcut hd).trans (Vm hx),rfl,_,_,m2,_,rfl,⟨by omega,by omega⟩,_,_,G.get hB' nofun,x.cells,(Fz.elem hcut' hd).trans (Vm hx),rfl,aj (fun d=>?_) (fun d=>?_)⟩
   ·exact absurd (show (!(JY x x))=true from d) (by rw [KJ];decide)
   ·exact ⟨⟨by omega,by omega⟩,_,_,⟨k+1,rfl,by omega,rfl,rfl⟩,⟨rfl,rfl,rfl,trivial⟩,by omega⟩
  ·exact ⟨_,by exact ⟨rfl,rfl,trivial⟩,rfl,rfl⟩
 rintro q w2 ⟨rfl,rfl⟩;refine CS.piece (Q:=fun q w'=>q=[(2,.pointer (some ⟨b1,0,none⟩)),(3,.pointer (some ⟨b2,0,none⟩))]∧w'=w2) (CS.of au mixed ?_) ?_
 ·refine ⟨fun q s0 w3=>∃ k:Nat,q=s.D.length - k∧k≤s.D.length∧s0=[(2,.pointer (some ⟨b1,0,none⟩)),(3,.pointer (some ⟨b2,0,none⟩)),(7,.int .i64 k)]∧w3=w2,⟨_,_,⟨0,rfl,Nat.zero_le _,rfl,rfl⟩,rfl,rfl,rfl,trivial⟩,?_⟩
  rintro q s0 w2 ⟨k,rfl,hk,rfl,rfl⟩;refine ⟨_,_,m1,_,rfl,aj (fun e=>?_) (fun e=>?_)⟩
  ·have hd:k<s.D.length:=by have:=of_decide_eq_true e;omega
   rcases d3 with ⟨_,h0⟩ | ⟨B,off,cs,rfl,hB,hcut⟩
   ·omega
   rcases d3' with ⟨_,h0⟩ | ⟨B',off',cs',rfl,hB',hcut'⟩
   ·omega
   obtain ⟨x,hx⟩:∃ x,s.D[k]? = some x:=⟨s.D[k],by simp [hd]⟩;refine ⟨by kernel_rfl,_,_,m1,_,rfl,⟨by omega,by omega⟩,_,_,G.get hB nofun,x.cells,(Fz.elem hcut hd).trans (Ab hx),rfl,_,_,m2,_,rfl,⟨by omega,by omega⟩,_,_,G.get hB' nofun,x.cells,(Fz.elem hcut' hd).trans (Ab hx),rfl,aj (fun d=>?_) (fun d=>?_)⟩
   ·exact absurd (show (!(dU x x))=true from d) (by rw [Ca];decide)
   ·exact ⟨⟨by omega,by omega⟩,_,_,⟨k+1,rfl,by omega,rfl,rfl⟩,⟨rfl,rfl,rfl,trivial⟩,by omega⟩
  ·exact ⟨_,by exact ⟨rfl,rfl,trivial⟩,rfl,rfl⟩
 rintro q w2 ⟨rfl,rfl⟩;refine CS.piece (Q:=fun q w'=>q=[(2,.pointer (some ⟨b1,0,none⟩)),(3,.pointer (some ⟨b2,0,none⟩))]∧w'=w2) (CS.of au mixed ?_) ?_
 ·refine ⟨fun q s0 w3=>∃ k:Nat,q=s.I.length - k∧k≤s.I.length∧s0=[(2,.pointer (some ⟨b1,0,none⟩)),(3,.pointer (some ⟨b2,0,none⟩)),(8,.int .i64 k)]∧w3=w2,⟨_,_,⟨0,rfl,Nat.zero_le _,rfl,rfl⟩,rfl,rfl,rfl,trivial⟩,?_⟩
  rintro q s0 w2 ⟨k,rfl,hk,rfl,rfl⟩;refine ⟨_,_,m1,_,rfl,aj (fun e=>?_) (fun e=>?_)⟩
  ·have hd:k<s.I.length:=by have:=of_decide_eq_true e;omega
   rcases i3 with ⟨_,h0⟩ | ⟨B,off,cs,rfl,hB,hcut⟩
   ·omega
   rcases i3' with ⟨_,h0⟩ | ⟨B',off',cs',rfl,hB',hcut'⟩
   ·omega
   obtain ⟨x,hx⟩:∃ x,s.I[k]? = some x:=⟨s.I[k],by simp [hd]⟩;have e1:=QU ((Fz.elem hcut hd).trans (QT hx));have e2:=QU ((Fz.elem hcut' hd).trans (QT hx));refine ⟨by kernel_rfl,_,_,m1,_,rfl,⟨by omega,by omega⟩,_,_,G.get hB nofun,.int .u32 x,by show cs.toList[off+(k:Int).toNat*1]? = _;rw [Int.toNat_natCast];exact e1,_,_,m2,_,rfl,⟨by omega,by omega⟩,_,_,G.get hB' nofun,.int .u32 x,by show cs'.toList[off'+(k:Int).toNat*1]? = _;rw [Int.toNat_natCast];exact e2,aj (fun d=>Bo d) (fun d=>?_)⟩;exact ⟨⟨by omega,by omega⟩,_,_,⟨k+1,rfl,by omega,rfl,rfl⟩,⟨rfl,rfl,rfl,trivial⟩,by omega⟩
  ·exact ⟨_,by exact ⟨rfl,rfl,trivial⟩,rfl,rfl⟩
 rintro q w2 ⟨rfl,rfl⟩;refine CS.of au mixed ?_;refine ⟨_,_,m1,_,rfl,_,_,m2,_,rfl,_,Oz w2 (h1'.kz G.kz) (h2'.kz G.kz) hb0,?_⟩;rintro _ w3 ⟨rfl,g3⟩;exact ⟨rfl,G.trans g3⟩
def JZ (P:Program) (Post:Value→World→Prop) (m:Machine) (t:Trace):Prop:=∃ N last o w' t',runNT P (N+1) m t=(.ended o w',t')∧runN P N m=.next last∧Go.step P last=.ended o w'∧Go.Conc.Good P Post last o w' t'
theorem WZ {P:Program} {i k:Nat} {m m' last:Machine} {t t':Trace} (h:runNT P i m t=(.next m',t')) (h2:runN P k m'=.next last):runN P (i+k) m=.next last:=by
 rw [← runNT_fst _ _ _ t,tO i k h,runNT_fst,h2]
theorem W9 {P:Program} {Post:Value→World→Prop} {m:Machine} {t:Trace} (h:Reaches P (JZ P Post) m t):JZ P Post m t:=by
 obtain ⟨i,m',t',h1,N,last,o,w',t2,h2,h3,h4,h5⟩:=h;exact ⟨i+N,last,o,w',t2,(tO i (N+1) h1).trans h2,WZ h1 h3,h4,h5⟩
theorem Xa {P:Program} {Post:Value→World→Prop} {g:Goroutine} {w:World} (hr:g.status=.running) {v:Value} (hs:∀ w,stepG P true g w=.ended (.done v) w #[]) (hp:∀ w₁,cu w w₁→Post v w₁):XR P (JZ P Post) g w:=by
 intro w₁ h1 gs sl t q h0 hL hP;obtain ⟨B,hP⟩:=hP;refine Reaches.here (beside_ends (n:=0) (D:=fun _ _ _=>False) (fun _ _ _ h=>h.elim) h0 hL.leavers hP (Goes.stop fun w₂ h2=>⟨hr,v,#[],hs w₂,by simp,hp w₂ (jg _ _ _ h1 (xJ h2))⟩))
theorem TZ {P:Program} {Post:Value→World→Prop} {g:Goroutine} {w:World} (h:XR P (JZ P Post) g w):JZ P Post (crowd #[g] w none) #[] :=
 W9 (h w (xI w) #[g] none #[] (fun _=>0) rfl ⟨fun i x hi hx=>absurd ((Array.getElem?_eq_some_iff.1 hx).1) (by simp;omega),fun _ _=>rfl⟩ ⟨0,past_nil⟩)
theorem QV {P:Program} {fr:Frame} {w:World} {v:Value} {t:Tmp} {fn:Func} (hfn:P.funcs[fr.fn]? = some fn) (hin:P.inits.idxOf? fr.fn=none) (hres:fn.results = #[.tmp t]) (hl:fr.leaving P w (.returned v)) (w₁:World):stepG P true (G fr []) w₁=.ended (.done v) w₁ #[]:=by
 obtain ⟨hm,hd,hk,fn',hfn',hr⟩:=hl;obtain rfl:fn'=fn:=Option.some.inj (hfn'.symm.trans hfn);generalize hu:fr.tmps.getD t undef=u;have e:results fn' fr.tmps=(pure u:Sem Value):=by rw [← hu];simp [results,hres]
 rw [e] at hr;have hr2:(Result.ok u w:Result Value)=.ok v w:=hr;injection hr2 with hv _;subst hv;have e2:Sem.runT P (pure u:Sem Value) w₁ #[]=(.ok u w₁,#[]):=rfl;simp only [G,stepG,unwind,doReturn,hm,hd,hk,hfn,e,e2,hin,seen_none];rfl
noncomputable def T9 (z:Nat×Nat):kP Tryz.prog:={ au with Pj:=z }
def FzZ (w:World) (size:Nat) (v:Value) (n:Nat) (xs:List Value):Prop:=∃ a c,v=.slice a n c∧n≤c∧xs.length=n*size∧(n=0∨∃ b off cs ty z,a=some ⟨b,off,none⟩∧w.heap[b]? = some (.cells cs ty z)∧aO cs.toList off (n*size)=xs)
structure QX (A:bE):Prop where
 sb:∀ {k} s,A.good k s→StB s
theorem Xb {l:List Stp} {k:Nat} {t:Stp} (h:l[k]? = some t):aO (l.map Stp.cells).flatten (k*11) 11=t.cells:=by
 rw [← List.flatMap_def];exact jy (f:=Stp.cells) (fun _=>rfl) l k t h
theorem wrap_i64 (x:Int):uY (IntKind.i64.wrap x):=by
 have e:IntKind.i64.wrap x=if x%18446744073709551616≥9223372036854775808 then x%18446744073709551616 - 18446744073709551616 else x%18446744073709551616:=by
  unfold IntKind.wrap;simp [IntKind.bits,IntKind.signed]
 unfold uY;rw [e];split <;> omega
theorem Three.snap {W w:World} {bs bt bu:Nat} {S T U:Sit} (h:Three (cZ W) bs S bt T bu U w):GB none W w:=by
 obtain ⟨p,q,r,h1,_⟩:=h;exact h1.k.snap
def J2 (p q:bJ):Bool:=p.fg == q.fg && (p.fr == q.fr && true) && (p.tg == q.tg && (p.tr == q.tr && true) && (p.d == q.d && true))
theorem Xc (d:ByteArray):(d == d)=true:=by
 cases d with
 | mk a=>show (a == a)=true;simp
theorem KL (p:bJ):J2 p p=true:=by simp [J2,Xc]
section
variable {A E L:bE} (HA:bW A) (HN:je A) (HL:wh A) (HB:QX A) (HA2:bW E) (Vn:je E) (HL2:wh E) (HA1:bW L) (Vo:je L) (Vp:wh L) (HV:JV L) (hL:L.N=1) {W:World}
include HA HN HL HB HA2 Vn HL2 HA1 Vo Vp HV hL
theorem Ua {g f o:Int} (hg:uY g) (hf:uY f) (ho:uY o) (hNA:1+bA g 4=A.N) (hNE:1+bA o 4=E.N) {l:List Stp} {v:Value} (hl:FzZ W 11 v l.length (l.map Stp.cells).flatten) (hn:l.length≤9223372036854775807) (hwf:∀ t∈l,t.wf A) (adO:∀ t∈l,t.wf E):aQ Tryz.prog Tryz.f6.ntmps (Tryz.f6.body.getD .skip) (zT au Tryz.f6.results.toList (fun v w'=>v=.bool true∧GB none W w')) (uF [.int .i64 g,.int .i64 f,v,.int .i64 o] 0) W:=by
 obtain ⟨va,vc,rfl,YA,hvl,hvd⟩:=hl;refine aQ.piece (Q:=fun q w'=>q=[(0,.int .i64 g),(1,.int .i64 f),(2,.slice va l.length vc),(3,.int .i64 o)]∧w'=W) (aQ.of au mixed ⟨_,by exact ⟨rfl,rfl,rfl,rfl,trivial⟩,rfl,rfl⟩) ?_;rintro q W ⟨rfl,rfl⟩;refine aQ.piece (Q:=fun q w1=>∃ bs,q=[(0,.int .i64 g),(1,.int .i64 f),(2,.slice va l.length vc),(3,.int .i64 o),(9,.pointer (some ⟨bs,0,none⟩)),(10,.bool true)]∧cz (cZ W) bs (Sit.new A (1+bA g 4) (1+2*bA f 3)) w1) (aQ.of au mixed ?_) ?_
 ·refine ⟨_,CY HA1 Vo Vp HV HA hL W g f hg hf,?_⟩
  rintro _ w1 ⟨bs,rfl,h1,k1⟩;exact ⟨_,by exact ⟨rfl,rfl,rfl,rfl,rfl,rfl,trivial⟩,bs,rfl,h1⟩
 rintro q w1 ⟨bs,rfl,h1⟩;refine aQ.piece (Q:=fun q w2=>∃ bt,q=[(1,.int .i64 f),(2,.slice va l.length vc),(3,.int .i64 o),(9,.pointer (some ⟨bs,0,none⟩)),(10,.bool true),(11,.pointer (some ⟨bt,0,none⟩)),(12,.bool true)]∧cz (cZ w1) bt (Sit.new A (1+bA g 4) (1+2*bA f 3)) w2∧Kz w1 w2) (aQ.of au mixed ?_) ?_
 ·refine ⟨_,CY HA1 Vo Vp HV HA hL w1 g f hg hf,?_⟩
  rintro _ w2 ⟨bt,rfl,h2,k2⟩;exact ⟨_,by exact ⟨rfl,rfl,rfl,rfl,rfl,rfl,rfl,trivial⟩,bt,rfl,h2,k2⟩
 rintro q w2 ⟨bt,rfl,h2,k2⟩;refine aQ.piece (Q:=fun q w3=>∃ bu,q=[(2,.slice va l.length vc),(9,.pointer (some ⟨bs,0,none⟩)),(10,.bool true),(11,.pointer (some ⟨bt,0,none⟩)),(12,.bool true),(13,.pointer (some ⟨bu,0,none⟩)),(14,.bool true)]∧cz (cZ w2) bu (Sit.new E (1+bA o 4) (1+2*bA (IntKind.i64.wrap (f+1)) 3)) w3∧Kz w2 w3) (aQ.wK (E:=au) ?_) ?_
 ·refine ⟨_,CY HA1 Vo Vp HV HA2 hL w2 o (IntKind.i64.wrap (f+1)) ho (wrap_i64 _),?_⟩
  rintro _ w3 ⟨bu,rfl,h3,k3⟩;exact ⟨_,by exact ⟨rfl,rfl,rfl,rfl,rfl,rfl,rfl,trivial⟩,bu,rfl,h3,k3⟩
 rintro q w3 ⟨bu,rfl,h3,k3⟩;have lf:=gF f (show 0<3 by decide);have lg:=gF g (show 0<4 by decide);have lo:=gF o (show 0<4 by decide);have lf':=gF (IntKind.i64.wrap (f+1)) (show 0<3 by decide);have hT:=Three.open h1 h2 k2 h3 k3;have F0:(Sit.new A (1+bA g 4) (1+2*bA f 3)).aN A:=Sit.aN.new HA HN ⟨by omega,by omega⟩ hNA ⟨by omega,by omega⟩;have U0:(Sit.new E (1+bA o 4) (1+2*bA (IntKind.i64.wrap (f+1)) 3)).aN E:=Sit.aN.new HA2 Vn ⟨by omega,by omega⟩ hNE ⟨by omega,by omega⟩;generalize Sit.new A (1+bA g 4) (1+2*bA f 3)=S0 at *;generalize Sit.new E (1+bA o 4) (1+2*bA (IntKind.i64.wrap (f+1)) 3)=V0 at *;clear h1 h2 h3 k2 k3;refine aQ.piece (Q:=fun q w'=>q=[(2,.slice va l.length vc),(9,.pointer (some ⟨bs,0,none⟩)),(11,.pointer (some ⟨bt,0,none⟩)),(13,.pointer (some ⟨bu,0,none⟩))]∧w'=w3) (aQ.of au mixed ⟨_,by exact ⟨rfl,rfl,rfl,rfl,trivial⟩,rfl,rfl⟩) ?_;rintro q w3 ⟨rfl,rfl⟩;refine aQ.piece (Q:=fun q w4=>q=[(9,.pointer (some ⟨bs,0,none⟩)),(11,.pointer (some ⟨bt,0,none⟩))]∧∃ S U,S.aN A∧Three (cZ W) bs S bt S bu U w4) ?_ ?_
 ·refine aQ.piece (Q:=fun q w'=>q=[(2,.slice va l.length vc),(9,.pointer (some ⟨bs,0,none⟩)),(11,.pointer (some ⟨bt,0,none⟩)),(13,.pointer (some ⟨bu,0,none⟩)),(15,.int .i64 0)]∧w'=w3) (aQ.of au mixed ⟨_,by exact ⟨rfl,rfl,rfl,rfl,rfl,trivial⟩,rfl,rfl⟩) ?_
  rintro q w3 ⟨rfl,rfl⟩;refine aQ.block ?_;refine aQ.loop (fun m s wk=>∃ (i:Nat) (S U:Sit),m=l.length - i∧i≤l.length∧s=[(2,.slice va l.length vc),(9,.pointer (some ⟨bs,0,none⟩)),(11,.pointer (some ⟨bt,0,none⟩)),(13,.pointer (some ⟨bu,0,none⟩)),(15,.int .i64 i)]∧S.aN A∧U.aN E∧Three (cZ W) bs S bt S bu U wk) ⟨_,_,⟨0,S0,V0,rfl,Nat.zero_le _,rfl,F0,U0,hT⟩,rfl,rfl,rfl,rfl,rfl,trivial⟩ ?_;clear hT F0 U0;rintro m s wk ⟨i,S,U,rfl,hi,rfl,hS,hU,hT⟩;refine aQ.cut (Qn:=fun q w'=>i<l.length∧q=[(2,.slice va l.length vc),(9,.pointer (some ⟨bs,0,none⟩)),(11,.pointer (some ⟨bt,0,none⟩)),(13,.pointer (some ⟨bu,0,none⟩)),(15,.int .i64 i)]∧w'=wk) (Qx:=fun j q w'=>j=0∧q=[(9,.pointer (some ⟨bs,0,none⟩)),(11,.pointer (some ⟨bt,0,none⟩))]∧w'=wk) (Qr:=fun _ _=>False) (aQ.of au mixed ?_) ?_ ?_ (fun _ _ _ h _=>h.elim)
  ·refine aj (fun c=>?_) (fun c=>?_)
   ·exact ⟨_,by exact ⟨rfl,rfl,rfl,rfl,rfl,trivial⟩,by have:=of_decide_eq_true c;omega,rfl,rfl⟩
   ·exact ⟨_,by exact ⟨rfl,rfl,trivial⟩,rfl,rfl,rfl⟩
  rotate_left
  ·rintro j q s w' ⟨rfl,rfl,rfl⟩ hs
   exact ⟨_,hs,rfl,S,U,hS,hT⟩
  rintro q wk ⟨c1,rfl,rfl⟩;rcases hvd with h0 | ⟨Bv,AO,Vq,tyv,zv',rfl,hBv,hcv⟩
  ·omega
  obtain ⟨t,ht⟩:∃ t,l[i]? = some t:=⟨l[i],by simp [c1]⟩;obtain ⟨t',ht'⟩:∃ t,l[l.length - 1 - i]? = some t:=⟨l[l.length - 1 - i]'(by omega),by simp [show l.length - 1 - i<l.length by omega]⟩;have twf:=hwf t (List.mem_of_getElem? ht);have aaf:=adO t' (List.mem_of_getElem? ht');have hel:∀ {k:Nat} {t:Stp},k<l.length→l[k]? = some t→aO Vq.toList (AO+k*11) 11=t.cells:=fun hk h=>(Fz.elem hcv hk).trans (Xb h)
  have hS':=Sit.aN.do HA HN HL hS twf;have hU':=Sit.aN.do HA2 Vn HL2 hU aaf;refine aQ.piece (Q:=fun q w'=>q=[(2,.slice (some ⟨Bv,AO,none⟩) l.length vc),(9,.pointer (some ⟨bs,0,none⟩)),(11,.pointer (some ⟨bt,0,none⟩)),(13,.pointer (some ⟨bu,0,none⟩)),(15,.int .i64 i)]∧∃ S U,S.aN A∧U.aN E∧Three (cZ W) bs S bt S bu U w') ?_ ?_;rotate_left
  ·rintro q w' ⟨rfl,S',U',f1,f2,h'⟩
   refine aQ.of au mixed ?_;exact ⟨⟨by omega,by omega⟩,_,_,⟨i+1,S',U',rfl,by omega,rfl,f1,f2,h'⟩,⟨rfl,rfl,rfl,rfl,rfl,trivial⟩,by omega⟩
  refine aQ.block ?_;obtain ⟨r,hr⟩:∃ r,r=(S.do A t).2:=⟨_,rfl⟩;obtain ⟨S1,hS1⟩:∃ S1,S1=(S.do A t).1:=⟨_,rfl⟩;obtain ⟨U1,hU1⟩:∃ U1,U1=(U.do E t').1:=⟨_,rfl⟩;refine aQ.piece (Q:=fun q w'=>q=[(2,.slice (some ⟨Bv,AO,none⟩) l.length vc),(9,.pointer (some ⟨bs,0,none⟩)),(11,.pointer (some ⟨bt,0,none⟩)),(13,.pointer (some ⟨bu,0,none⟩)),(15,.int .i64 i),(16,.bool r)]∧Three (cZ W) bs S1 bt S bu U w') (aQ.of (T9 zv') mixed ?_) ?_
  ·obtain ⟨Λ',e1,e2⟩:=hT.first
   have hd:=TV HA HN HL e1 hS twf;rw [← hr,← hS1] at hd;refine ⟨⟨by omega,by omega⟩,_,_,hT.snap.get hBv nofun,t.cells,by show aO Vq.toList (AO+(i:Int).toNat*11) 11=_;rw [Int.toNat_natCast];exact hel c1 ht,rfl,_,hd,?_⟩;rintro _ w' ⟨rfl,h',k'⟩;exact ⟨_,by exact ⟨rfl,rfl,rfl,rfl,rfl,rfl,trivial⟩,rfl,e2 _ _ h' k'⟩
  rintro q w5 ⟨rfl,QY⟩;refine aQ.piece (Q:=fun q w'=>q=[(2,.slice (some ⟨Bv,AO,none⟩) l.length vc),(9,.pointer (some ⟨bs,0,none⟩)),(11,.pointer (some ⟨bt,0,none⟩)),(13,.pointer (some ⟨bu,0,none⟩)),(15,.int .i64 i),(16,.bool r)]∧Three (cZ W) bs S1 bt S bu U1 w') (aQ.of (T9 zv') mixed ?_) ?_
  ·obtain ⟨Λ',e1,e2⟩:=QY.MB.MB.first
   have hd:=TV HA2 Vn HL2 e1 hU aaf;rw [← hU1] at hd;have ei:((l.length:Int) - 1 - (i:Int)).toNat=l.length - 1 - i:=by omega
   refine ⟨⟨by omega,by omega⟩,⟨by omega,by omega⟩,⟨by omega,by omega⟩,_,_,QY.snap.get hBv nofun,t'.cells,by show aO Vq.toList (AO+((l.length:Int) - 1 - (i:Int)).toNat*11) 11=_;rw [ei];exact hel (by omega) ht',rfl,_,hd,?_⟩;rintro _ w' ⟨rfl,h',k'⟩;exact ⟨_,by exact ⟨rfl,rfl,rfl,rfl,rfl,rfl,trivial⟩,rfl,(e2 _ _ h' k').MB⟩
  rintro q w6 ⟨rfl,QZ⟩;refine aQ.piece (Q:=fun q w'=>q=[(2,.slice (some ⟨Bv,AO,none⟩) l.length vc),(9,.pointer (some ⟨bs,0,none⟩)),(11,.pointer (some ⟨bt,0,none⟩)),(13,.pointer (some ⟨bu,0,none⟩)),(15,.int .i64 i),(16,.bool r),(17,.bool r)]∧Three (cZ W) bs S1 bt S1 bu U1 w') (aQ.of (T9 zv') mixed ?_) ?_
  ·obtain ⟨Λ',e1,e2⟩:=QZ.MB.first
   have hd:=TV HA HN HL e1 hS twf;rw [← hr,← hS1] at hd;refine ⟨⟨by omega,by omega⟩,_,_,QZ.snap.get hBv nofun,t.cells,by show aO Vq.toList (AO+(i:Int).toNat*11) 11=_;rw [Int.toNat_natCast];exact hel c1 ht,rfl,_,hd,?_⟩;rintro _ w' ⟨rfl,h',k'⟩;exact ⟨_,by exact ⟨rfl,rfl,rfl,rfl,rfl,rfl,rfl,trivial⟩,rfl,(e2 _ _ h' k').MB.MB⟩
  rintro q w7 ⟨rfl,hT7⟩;refine aQ.of au mixed ?_;rw [← hS1] at hS';rw [← hU1] at hU';cases r
  ·exact ⟨_,by exact ⟨rfl,rfl,rfl,rfl,rfl,trivial⟩,rfl,S1,U1,hS',hU',hT7⟩
  ·exact ⟨_,by exact ⟨rfl,rfl,rfl,rfl,rfl,trivial⟩,rfl,S1,U1,hS',hU',hT7⟩
 rintro q w4 ⟨rfl,S,U,hF,hT⟩;have hlen:=hF.cl.len;have e0:S.C.q.length - min (0:Int).toNat S.C.q.length=S.C.q.length:=by simp
 have e0':S.C.q.drop (min (0:Int).toNat S.C.q.length)=S.C.q:=by simp
 refine aQ.piece (Q:=fun q w5=>∃ la lc,q=[(9,.pointer (some ⟨bs,0,none⟩)),(11,.pointer (some ⟨bt,0,none⟩)),(18,.slice la S.C.q.length lc)]∧w5.ownsRow 0 97 5 (.slice la S.C.q.length lc) S.C.q.length (flat S.C.q)∧Three (cZ W) bs S bt S bu U w5) (aQ.of au mixed ?_) ?_
 ·obtain ⟨p,q,r,h1,h2,h3,d1,d2,d3⟩:=hT
  refine ⟨_,_,h1.si.mem,_,rfl,_,(nu (dR.enter h1) hlen 0 (by decide) (by decide)).x,?_⟩;rintro lv w5 ⟨o5,g5,_⟩;rw [e0,e0'] at o5;obtain ⟨la,lc,rfl⟩:=ag o5;exact ⟨_,by exact ⟨rfl,rfl,rfl,trivial⟩,la,lc,rfl,o5,Three.ax ⟨p,q,r,h1,h2,h3,d1,d2,d3⟩ g5⟩
 rintro q w5 ⟨la,lc,rfl,o5,QY⟩;refine aQ.piece (Q:=fun q w6=>∃ la' F5,q=[(9,.pointer (some ⟨bs,0,none⟩)),(11,.pointer (some ⟨bt,0,none⟩)),(18,.slice la S.C.q.length lc),(19,.slice la' S.C.q.length F5)]∧w6.ownsRow 0 97 5 (.slice la S.C.q.length lc) S.C.q.length (flat S.C.q)∧w6.ownsRow 0 97 5 (.slice la' S.C.q.length F5) S.C.q.length (flat S.C.q)∧Three (cZ W) bs S bt S bu U w6) (aQ.of au mixed ?_) ?_
 ·obtain ⟨p,q,r,h1,h2,h3,d1,d2,d3⟩:=QY
  refine ⟨_,_,h2.si.mem,_,rfl,_,(nu (dR.enter h2) hlen 0 (by decide) (by decide)).x,?_⟩;rintro lv w6 ⟨o6,g6,_⟩;rw [e0,e0'] at o6;obtain ⟨la',F5,rfl⟩:=ag o6;exact ⟨_,by exact ⟨rfl,rfl,rfl,rfl,trivial⟩,la',F5,rfl,aF o5 fun x hx=>by obtain ⟨c,hc⟩:=aG o5 hx;exact g6.block x (ae hc) nofun,o6,Three.ax ⟨p,q,r,h1,h2,h3,d1,d2,d3⟩ g6⟩
 rintro q w6 ⟨la',F5,rfl,o6,o6',QZ⟩;clear QY o5 hT;refine aQ.piece (Q:=fun q w'=>q=[(9,.pointer (some ⟨bs,0,none⟩)),(11,.pointer (some ⟨bt,0,none⟩)),(18,.slice la S.C.q.length lc),(19,.slice la' S.C.q.length F5)]∧w'=w6) (aQ.of au mixed ?_) ?_
 ·refine aj (fun e=>Bo e) (fun e=>?_)
  exact ⟨_,by exact ⟨rfl,rfl,rfl,rfl,trivial⟩,rfl,rfl⟩
 rintro q w6 ⟨rfl,rfl⟩;refine aQ.piece (Q:=fun q w'=>q=[(9,.pointer (some ⟨bs,0,none⟩)),(11,.pointer (some ⟨bt,0,none⟩))]∧w'=w6) (aQ.of au mixed ?_) ?_
 ·refine ⟨fun m s w3=>∃ k:Nat,m=S.C.q.length - k∧k≤S.C.q.length∧s=[(9,.pointer (some ⟨bs,0,none⟩)),(11,.pointer (some ⟨bt,0,none⟩)),(18,.slice la S.C.q.length lc),(19,.slice la' S.C.q.length F5),(20,.int .i64 k)]∧w3=w6,⟨_,_,⟨0,rfl,Nat.zero_le _,rfl,rfl⟩,rfl,rfl,rfl,rfl,rfl,trivial⟩,?_⟩
  rintro m s w6 ⟨k,rfl,hk,rfl,rfl⟩;refine aj (fun e=>?_) (fun e=>?_)
  ·have d1:k<S.C.q.length:=by have:=of_decide_eq_true e;omega
   obtain ⟨x,hx⟩:∃ x,S.C.q[k]? = some x:=⟨S.C.q[k],by simp [d1]⟩;obtain ⟨gb,cap,cur,ev,aT,htk,hsz,hcap⟩:=iI o6 (by omega);injection ev with ev _ Jr;subst ev;subst Jr;obtain ⟨gb',cap',cur',ev',oH,adP,hsz',afR⟩:=iI o6' (by omega);injection ev' with ev' _ adQ;subst ev';subst adQ;refine ⟨by kernel_rfl,⟨by omega,by omega⟩,_,_,aT,x.cells,by show aO cur.toList (0+(k:Int).toNat*5) 5=_;rw [Nat.zero_add,Int.toNat_natCast];exact Hd hx htk,rfl,⟨by omega,by omega⟩,_,_,oH,x.cells,by show aO cur'.toList (0+(k:Int).toNat*5) 5=_;rw [Nat.zero_add,Int.toNat_natCast];exact Hd hx adP,rfl,aj (fun d=>?_) (fun d=>?_)⟩
   ·exact absurd (show (!(J2 x x))=true from d) (by rw [KL];decide)
   ·exact ⟨⟨by omega,by omega⟩,_,_,⟨k+1,rfl,by omega,rfl,rfl⟩,⟨rfl,rfl,rfl,rfl,rfl,trivial⟩,by omega⟩
  ·exact ⟨_,by exact ⟨rfl,rfl,trivial⟩,rfl,rfl⟩
 rintro q w6 ⟨rfl,rfl⟩;clear o6 o6';have jr:=hF.cl.n;have hs5:=hF.cl.sz;have hle:S.C.n*S.C.sz≤20:=Nat.mul_le_mul jr hs5;have hcast:((S.C.n:Nat):Int)*((S.C.sz:Nat):Int)=((S.C.n*S.C.sz:Nat):Int):=(Int.natCast_mul _ _).symm;refine aQ.piece (Q:=fun q w'=>q=[]∧GB none W w') ?_ ?_;rotate_left
 ·rintro q w' ⟨rfl,g'⟩
  refine aQ.of au mixed ?_;exact ⟨rfl,g'⟩
 refine aQ.piece (Q:=fun q w'=>q=[(9,.pointer (some ⟨bs,0,none⟩)),(11,.pointer (some ⟨bt,0,none⟩)),(21,.int .i64 0)]∧w'=w6) (aQ.of au mixed ⟨_,by exact ⟨rfl,rfl,rfl,trivial⟩,rfl,rfl⟩) ?_;rintro q w6 ⟨rfl,rfl⟩;refine aQ.block ?_;refine aQ.loop (fun m s wk=>∃ i:Nat,m=S.C.n*S.C.sz - i∧i≤S.C.n*S.C.sz∧s=[(9,.pointer (some ⟨bs,0,none⟩)),(11,.pointer (some ⟨bt,0,none⟩)),(21,.int .i64 i)]∧Three (cZ W) bs S bt S bu U wk) ⟨_,_,⟨0,rfl,Nat.zero_le _,rfl,QZ⟩,rfl,rfl,rfl,trivial⟩ ?_;clear QZ;rintro m s wk ⟨i,rfl,hi,rfl,hT⟩;have hT0:=hT;obtain ⟨p,q,r,h1,h2,h3,d1,d2,d3⟩:=hT;have hmem:=h1.si.mem;refine aQ.cut (Qn:=fun q w'=>i<S.C.n*S.C.sz∧q=[(9,.pointer (some ⟨bs,0,none⟩)),(11,.pointer (some ⟨bt,0,none⟩)),(21,.int .i64 i)]∧w'=wk) (Qx:=fun j q w'=>j=4∧q=[]∧w'=wk) (Qr:=fun _ _=>False) (aQ.of au mixed ?_) ?_ ?_ (fun _ _ _ h _=>h.elim)
 ·refine ⟨by kernel_rfl,_,_,hmem,_,rfl,_,_,hmem,_,rfl,⟨by rw [hcast];omega,by rw [hcast];omega⟩,?_⟩
  refine aj (fun c=>?_) (fun c=>?_)
  ·exact ⟨_,by exact ⟨rfl,rfl,rfl,trivial⟩,by have:=of_decide_eq_true c;rw [hcast] at this;omega,rfl,rfl⟩
  ·exact ⟨_,by exact trivial,rfl,rfl,rfl⟩
 rotate_left
 ·rintro j q s w' ⟨rfl,rfl,rfl⟩ hs
  exact ⟨_,hs,rfl,hT0.snap⟩
 rintro q' wk ⟨c1,rfl,rfl⟩;obtain ⟨q1,q2⟩:=qD (C:=S.C) (k:=(i:Int)) hF.n hF.sz;refine aQ.piece (Q:=fun q w'=>q=[(9,.pointer (some ⟨bs,0,none⟩)),(11,.pointer (some ⟨bt,0,none⟩)),(21,.int .i64 i)]∧GB none wk w') ?_ ?_;rotate_left
 ·rintro q' w' ⟨rfl,g'⟩
  refine aQ.of au mixed ?_;exact ⟨⟨by omega,by omega⟩,_,_,⟨i+1,rfl,by omega,rfl,hT0.ax g'⟩,⟨rfl,rfl,rfl,trivial⟩,by omega⟩
 refine aQ.block ?_;refine aQ.piece (Q:=fun q w3=>∃ b4,q=[(9,.pointer (some ⟨bs,0,none⟩)),(11,.pointer (some ⟨bt,0,none⟩)),(21,.int .i64 i),(22,.pointer (some ⟨b4,0,none⟩))]∧w3.heap[b4]? = some (.cells #[.int .u8 (bV S.C i),.int .u8 (dF S.C i)] 48)∧GB none wk w3) (aQ.of au mixed ?_) ?_
 ·refine ⟨_,(nI hmem ⟨hF.n,jr⟩ ⟨hF.sz,hs5⟩ i (by omega) (by omega)).x,?_⟩
  rintro _ w1 ⟨rfl,g1⟩;refine fun w2 b4 m2 g2 l2=>⟨_,_,_,m2,rfl,rfl,fun w3 m3 g3=>?_⟩
  exact ⟨_,by exact ⟨rfl,rfl,rfl,rfl,trivial⟩,b4,rfl,m3,g1.trans (g2.new g3 l2)⟩
 rintro q' w3 ⟨b4,rfl,m3,g3⟩;have ok:=hF.cl.ok _ _ q1 q2;have hsb:=HB.sb _ (HA.GZ _ _ ok.lg ok.st HA.IY);have hs1:=fun w' (g:GB none w3 w')=>LQ HA (dR.enter (dR.ax h1 (g3.trans g))) hF.cl (bV S.C i) (dF S.C i) q1 q2
 have hs2:=fun w' (g:GB none w3 w')=>LQ HA (dR.enter (dR.ax h2 (g3.trans g))) hF.cl (bV S.C i) (dF S.C i) q1 q2
 have M1:∀ w',GB none w3 w'→w'.heap[bs]? = _:=fun w' g=>(dR.ax h1 (g3.trans g)).si.mem
 have M2:∀ w',GB none w3 w'→w'.heap[bt]? = _:=fun w' g=>(dR.ax h2 (g3.trans g)).si.mem
 generalize (A.ap (S.C.F (bV S.C ↑i) (dF S.C ↑i)).st kQ).1=st at *;have shk:∀ {w1 w2:World} {v:Value},Jq w1 v st→GB none w1 w2→Jq w2 v st:=fun h g=>by obtain ⟨T,M,D,O,I,e,h⟩:=h;exact ⟨T,M,D,O,I,e,h.kz g.kz⟩
 refine aQ.piece (Q:=fun q w'=>q=[(9,.pointer (some ⟨bs,0,none⟩)),(11,.pointer (some ⟨bt,0,none⟩)),(21,.int .i64 i),(23,.bool true)]∧GB none wk w') (aQ.of au mixed ?_) ?_
 ·refine ⟨by kernel_rfl,_,_,M1 w3 (GB.refl _ _),_,rfl,_,_,m3,[.int .u8 (bV S.C i),.int .u8 (dF S.C i)],rfl,rfl,_,_,M2 w3 (GB.refl _ _),_,rfl,_,_,m3,[.int .u8 (bV S.C i),.int .u8 (dF S.C i)],rfl,rfl,?_⟩
  have fin:∀ {x1 x2:Value} {w9:World},Jq w9 x1 st→Jq w9 x2 st→GB none w3 w9→af Tryz.prog 27 #[x1,x2] w9 (fun x w'=>x=.bool true∧GB none w9 w'):=fun a b _=>OA _ a b hsb
  refine ⟨_,(hs1 w3 (GB.refl _ _)).x,?_⟩;rintro x1 w7 ⟨s1,g7⟩;refine ⟨⟨g7.get m3 nofun,M2 w7 g7,g7.get m3 nofun,M1 w7 g7,trivial⟩,_,(hs2 w7 g7).x,?_⟩;rintro x2 w8 ⟨s2,g8⟩;have g38:=g7.trans g8;refine ⟨_,(fin (shk s1 g8) s2 g38).x,?_⟩;rintro _ w9 ⟨rfl,g9⟩;exact ⟨_,by exact ⟨rfl,rfl,rfl,rfl,trivial⟩,rfl,g3.trans (g38.trans g9)⟩
 rintro q' w' ⟨rfl,g'⟩;refine aQ.of au mixed ?_;exact ⟨_,by exact ⟨rfl,rfl,rfl,trivial⟩,rfl,g'⟩
end
end
end Go.Proofs.YtignemioillaiabGreat
