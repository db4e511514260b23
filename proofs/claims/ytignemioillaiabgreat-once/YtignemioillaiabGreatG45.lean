/- Lemmas. -/
import Derived.ProofKit
import Derived.Deep.Slices
import Derived.Deep.Strs
import Derived.Test.YtignemioillaiabGreatG44
import Derived.SizedLaws
import Derived.ChangeMaps5
import Derived.ClaimOpenTies
namespace Go.Proofs.YtignemioillaiabGreat
set_option maxHeartbeats 8000000
set_option maxRecDepth 100000
open List
section
open Go.ChangeShapes Go.WideShapes Go.ChangeAt Go.RowKit
theorem Tryz.own:ownKnob Tryz.prog.godebug=none:=by kernel_rfl
theorem Tryz.laidOut:laidOutB Tryz.prog=true:=by kernel_rfl
theorem XE{a:Addr}(h:a.spot=none)(n:Nat):a.add n=⟨a.block,a.off+n,none⟩:=by
 unfold Addr.add;split
 .subst n;cases a;simp_all
 .rfl
theorem U9{w:World}{a:Addr}{u:Value}(h:w.cell? a=some u):a.spot=none:=by
 unfold World.cell? at h;split at h
 .split at h
  .cases h
  .rename_i hs;simpa using hs
 .cases h
section
variable{H:Type}{enc:TypeId×Value->H}{P:Program}{w:World}
theorem Va{α:Type}[Inhabited α]{t e:TypeId}{size fuel:Nat}{v:Value}{x:DataW H×List MemPlace}(f:α->List Value)(wf:α->Prop)(ht:P.underlying t=some (.slice e))(hc:P.cellsOf e=size)(hpos:0<size)
 (hel:∀n cs x,DataW.trod enc P w 0 (λ_=>true) true n e cs=some x->∃a,cs=f a/\wf a) (h:DataW.trod enc P w 0 (λ_=>true) true fuel t [v]=some x) :
 ∃(a:Option Addr) (len cap:Nat) (xs:List α),v=.slice a len cap/\aaY w.heap.size w ⟨a,len,cap⟩ size (xs.map f)/\(a=none->cap=0)/\∀(i:Nat) (x:α),xs[i]?=some x->wf x:=by
 rcases Go.Deep.open_slice ht h with⟨h1,_⟩|⟨a,len,cap,m,n,D,Pl,h1,_,hl,hm,hmm,_,hx⟩
 .simp only[Jd8,and_true]at h1
  subst h1;exact⟨none,0,0,[],rfl,⟨rfl,Jb0 _,Jcm _,λh=>absurd h (Nat.lt_irrefl 0)⟩,λ_=>rfl,by simp⟩
 .simp only[Jd8,and_true]at h1
  subst h1;have hmc:m=cap:=by simpa using hmm
  subst hmc;have hex:∀i,i<len->∃y:α,wf y/\w.cells? 0 (a.add (i*size)) size=some (f y):=λi hi=>by
   obtain⟨cs,h2,h3⟩:=hx i (by omega);obtain⟨y,rfl,hy⟩:=hel _ _ _ h3;rw[hc]at h2;exact⟨y,hy,h2⟩
  obtain⟨g,hg⟩:=Go.Deep.choose_lt hex;refine⟨some a,len,m,(List.range len).map g,rfl,⟨by simp,hl,hm,λh0=>?_⟩,(by intro h;cases h),λi x hi=>?_⟩
  .have Y0:0<len:=h0
   have hsp:a.spot=none:=by
    obtain⟨_,h5,h6⟩:=World.cells?_some (hg 0 Y0).2;have h7:=h6 0 hpos;have h8:a.add (0*size)=a:=by unfold Addr.add;simp
    have h9:a.add 0=a:=by unfold Addr.add;simp
    rw[h8,h9]at h7;have:∃u,(f (g 0))[0]?=some u:=⟨(f (g 0))[0]'(by omega),by simp⟩;obtain⟨u,hu⟩:=this;rw[hu]at h7;exact U9 h7
   refine⟨a.block,a.off,by cases a;simp only at hsp;rw[hsp],?_,λi y hy j u hu=>?_⟩
   .have:=World.cells?_block (hg 0 Y0).2 hpos
    have h8:a.add (0*size)=a:=by unfold Addr.add;simp
    rw[h8]at this;exact this
   .simp only[map_map]at hy
    obtain⟨hi,he⟩:=Jcn.1 hy;have hi':i<len:=by simpa using hi
    simp at he;subst he;obtain⟨_,h5,h6⟩:=World.cells?_some (hg i hi').2;have hj:=(Jcn.1 hu).1;have h7:=h6 j (by omega);rw[hu,XE hsp]at h7;unfold Addr.add at h7;split at h7
    .subst j;exact h7
    .exact h7
  .obtain⟨hi',he⟩:=Jcn.1 hi
   have hl':i<len:=by simpa using hi'
   simp at he;subst he;exact(hg i hl').1
end
theorem wf_u64{n:Int}(h:(Lit.int .u64 n).wf=true):0<=n/\n<18446744073709551616:=by
 have h':IntKind.min .u64<=n/\n<=IntKind.max .u64:=by simpa[Lit.wf]using h
 have e1:IntKind.min .u64=0:=by decide
 have e2:IntKind.max .u64=18446744073709551615:=by decide
 omega
theorem wf_u8{n:Int}(h:(Lit.int .u8 n).wf=true):0<=n/\n<256:=by
 have h':IntKind.min .u8<=n/\n<=IntKind.max .u8:=by simpa[Lit.wf]using h
 have e1:IntKind.min .u8=0:=by decide
 have e2:IntKind.max .u8=255:=by decide
 omega
theorem wf_u32{n:Int}(h:(Lit.int .u32 n).wf=true):0<=n/\n<4294967296:=by
 have h':IntKind.min .u32<=n/\n<=IntKind.max .u32:=by simpa[Lit.wf]using h
 have e1:IntKind.min .u32=0:=by decide
 have e2:IntKind.max .u32=4294967295:=by decide
 omega
theorem Vb{H:Type}{enc:TypeId×Value->H}{W:World}{base:Nat}{sp:Nat->Bool}{held:Bool}(b:Bool):DataW.Trod enc Tryz.prog W base sp held 4 (.bool b) (.lit (.bool b)) []:=⟨1,by simp[DataW.trod,Value.cells,Tryz.underlying4]⟩
end
section
open Go Go.ChangeShapes Go.WideShapes Go.ChangeAt Go.RowKit Go.Conc
theorem Bn(l:List Value)(a n b:Nat)(h:a+n=b):l.drop a=(l.drop a).take n++l.drop b:=by
 subst h;rw[<-drop_drop];exact(Jgk n (l.drop a)).symm
instance:Inhabited Stp:=⟨⟨0,0,0,ByteArray.empty,⟨0,0,0,0,0,0,0⟩⟩⟩
section
variable{H:Type}{enc:TypeId×Value->H}{P:Program}{w:World}
theorem lenOf{t:TypeId}{fs:Array Field}{fuel:Nat}{cs:List Value}{x:DataW H×List MemPlace}(ht:P.underlying t=some (.struct fs))(h:DataW.trod enc P w 0 (λ_=>true) true fuel t cs=some x):cs.length=P.cellsOf t:=by
 obtain⟨xs,n,_,_,hl,_,_⟩:=DataW.trod_struct ht h;exact hl
theorem fieldAt{t:TypeId}{fs:Array Field}{fuel:Nat}{cs:List Value}{x:DataW H×List MemPlace}(ht:P.underlying t=some (.struct fs))(h:DataW.trod enc P w 0 (λ_=>true) true fuel t cs=some x)(i:Nat)(f:Field)(hf:fs[i]?=some f) :
 ∃y n,DataW.trod enc P w 0 (λ_=>true) true n f.type ((cs.drop f.offset).take (P.cellsOf f.type))=some y/\True:=by
 obtain⟨xs,n,_,rfl,_,hl,hx⟩:=DataW.trod_struct ht h;have hi:i<xs.length:=by rw[hl];exact(Jbd.1 hf).1
 have hy:xs[i]?=some xs[i]:=Jcc hi;exact⟨xs[i],n,(hx i f hf).trans hy,trivial⟩
end
theorem wf_i64{n:Int}(h:(Lit.int .i64 n).wf=true):yg n:=by
 have h':IntKind.min .i64<=n/\n<=IntKind.max .i64:=by simpa[Lit.wf]using h
 have e1:IntKind.min .i64 = -9223372036854775808:=by decide
 have e2:IntKind.max .i64=9223372036854775807:=by decide
 unfold yg;omega
structure Stp.w(t:Stp):Prop where
 kind:yg t.kind
 a:yg t.a
 b:yg t.b
 q:t.q.b
theorem Stp.w.wf{t:Stp}(h:t.w)(N:Nat):t.wf (bJ N):=⟨h.kind,h.a,h.b,h.q.s.1,h.q.k.1,iE.asks (PT h.q).1 (PT h.q).2⟩
section
variable{H:Type}{enc:TypeId×Value->H}{w:World}
theorem Vd{n:Nat}{cs:List Value}{x:DataW H×List MemPlace}(h:DataW.trod enc Tryz.prog w 0 (λ_=>true) true n 65 cs=some x):∃r:aW,cs=r.cells/\r.b:=by
 have hl:=lenOf Tryz.underlying65 h;rw[(by kernel_rfl:Tryz.prog.cellsOf 65=7)]at hl;have hd:cs.drop 7=[]:=drop_of_length_le (by omega);obtain⟨y0,n0,g0,u0⟩:=fieldAt Tryz.underlying65 h 0 _ rfl;replace g0:DataW.trod enc Tryz.prog w 0 (λ_=>true) true n0 5 ((cs.drop 0).take (Tryz.prog.cellsOf 5))=some y0:=g0;rw[(by kernel_rfl:Tryz.prog.cellsOf 5=1)]at g0;obtain⟨a0,e0,_,w0⟩:=DataW.trod_int Tryz.underlying5 g0;have v0:=wf_u8 w0;obtain⟨y1,n1,g1,u1⟩:=fieldAt Tryz.underlying65 h 1 _ rfl;replace g1:DataW.trod enc Tryz.prog w 0 (λ_=>true) true n1 59 ((cs.drop 1).take (Tryz.prog.cellsOf 59))=some y1:=g1;rw[(by kernel_rfl:Tryz.prog.cellsOf 59=1)]at g1;obtain⟨a1,e1,_,w1⟩:=DataW.trod_int Tryz.underlying59 g1;have v1:=wf_u32 w1;obtain⟨y2,n2,g2,u2⟩:=fieldAt Tryz.underlying65 h 2 _ rfl;replace g2:DataW.trod enc Tryz.prog w 0 (λ_=>true) true n2 5 ((cs.drop 2).take (Tryz.prog.cellsOf 5))=some y2:=g2;rw[(by kernel_rfl:Tryz.prog.cellsOf 5=1)]at g2;obtain⟨a2,e2,_,w2⟩:=DataW.trod_int Tryz.underlying5 g2;have v2:=wf_u8 w2;obtain⟨y3,n3,g3,u3⟩:=fieldAt Tryz.underlying65 h 3 _ rfl;replace g3:DataW.trod enc Tryz.prog w 0 (λ_=>true) true n3 31 ((cs.drop 3).take (Tryz.prog.cellsOf 31))=some y3:=g3;rw[(by kernel_rfl:Tryz.prog.cellsOf 31=1)]at g3;obtain⟨a3,e3,_,w3⟩:=DataW.trod_int Tryz.underlying31 g3;have v3:=wf_u64 w3;obtain⟨y4,n4,g4,u4⟩:=fieldAt Tryz.underlying65 h 4 _ rfl;replace g4:DataW.trod enc Tryz.prog w 0 (λ_=>true) true n4 31 ((cs.drop 4).take (Tryz.prog.cellsOf 31))=some y4:=g4;rw[(by kernel_rfl:Tryz.prog.cellsOf 31=1)]at g4;obtain⟨a4,e4,_,w4⟩:=DataW.trod_int Tryz.underlying31 g4;have v4:=wf_u64 w4;obtain⟨y5,n5,g5,u5⟩:=fieldAt Tryz.underlying65 h 5 _ rfl;replace g5:DataW.trod enc Tryz.prog w 0 (λ_=>true) true n5 31 ((cs.drop 5).take (Tryz.prog.cellsOf 31))=some y5:=g5;rw[(by kernel_rfl:Tryz.prog.cellsOf 31=1)]at g5;obtain⟨a5,e5,_,w5⟩:=DataW.trod_int Tryz.underlying31 g5;have v5:=wf_u64 w5;obtain⟨y6,n6,g6,u6⟩:=fieldAt Tryz.underlying65 h 6 _ rfl;replace g6:DataW.trod enc Tryz.prog w 0 (λ_=>true) true n6 5 ((cs.drop 6).take (Tryz.prog.cellsOf 5))=some y6:=g6;rw[(by kernel_rfl:Tryz.prog.cellsOf 5=1)]at g6;obtain⟨a6,e6,_,w6⟩:=DataW.trod_int Tryz.underlying5 g6;have v6:=wf_u8 w6;have hcs:cs=[.int .u8 a0,.int .u32 a1,.int .u8 a2,.int .u64 a3,.int .u64 a4,.int .u64 a5,.int .u8 a6]:=by
  show cs.drop 0=_;rw[Bn cs 0 1 1 rfl,e0,Bn cs 1 1 2 rfl,e1,Bn cs 2 1 3 rfl,e2,Bn cs 3 1 4 rfl,e3,Bn cs 4 1 5 rfl,e4,Bn cs 5 1 6 rfl,e5,Bn cs 6 1 7 rfl,e6,hd];rfl
 exact⟨⟨a0,a1,a2,a3,a4,a5,a6⟩,hcs,⟨v0,v1,v2,v3,v4,v5,v6⟩⟩
theorem step_cells{n:Nat}{cs:List Value}{x:DataW H×List MemPlace}(h:DataW.trod enc Tryz.prog w 0 (λ_=>true) true n 95 cs=some x):∃t:Stp,cs=t.cells/\t.w:=by
 have hl:=lenOf Tryz.underlying95 h;rw[(by kernel_rfl:Tryz.prog.cellsOf 95=11)]at hl;have hd:cs.drop 11=[]:=drop_of_length_le (by omega);obtain⟨y0,n0,g0,u0⟩:=fieldAt Tryz.underlying95 h 0 _ rfl;replace g0:DataW.trod enc Tryz.prog w 0 (λ_=>true) true n0 3 ((cs.drop 0).take (Tryz.prog.cellsOf 3))=some y0:=g0;rw[(by kernel_rfl:Tryz.prog.cellsOf 3=1)]at g0;obtain⟨a0,e0,_,w0⟩:=DataW.trod_int Tryz.underlying3 g0;have v0:=wf_i64 w0;obtain⟨y1,n1,g1,u1⟩:=fieldAt Tryz.underlying95 h 1 _ rfl;replace g1:DataW.trod enc Tryz.prog w 0 (λ_=>true) true n1 3 ((cs.drop 1).take (Tryz.prog.cellsOf 3))=some y1:=g1;rw[(by kernel_rfl:Tryz.prog.cellsOf 3=1)]at g1;obtain⟨a1,e1,_,w1⟩:=DataW.trod_int Tryz.underlying3 g1;have v1:=wf_i64 w1;obtain⟨y2,n2,g2,u2⟩:=fieldAt Tryz.underlying95 h 2 _ rfl;replace g2:DataW.trod enc Tryz.prog w 0 (λ_=>true) true n2 3 ((cs.drop 2).take (Tryz.prog.cellsOf 3))=some y2:=g2;rw[(by kernel_rfl:Tryz.prog.cellsOf 3=1)]at g2;obtain⟨a2,e2,_,w2⟩:=DataW.trod_int Tryz.underlying3 g2;have v2:=wf_i64 w2;obtain⟨y3,n3,g3,u3⟩:=fieldAt Tryz.underlying95 h 3 _ rfl;replace g3:DataW.trod enc Tryz.prog w 0 (λ_=>true) true n3 9 ((cs.drop 3).take (Tryz.prog.cellsOf 9))=some y3:=g3;rw[(by kernel_rfl:Tryz.prog.cellsOf 9=1)]at g3;obtain⟨a3,e3,_,w3⟩:=DataW.trod_string Tryz.underlying9 g3;obtain⟨y4,n4,g4,u4⟩:=fieldAt Tryz.underlying95 h 4 _ rfl;replace g4:DataW.trod enc Tryz.prog w 0 (λ_=>true) true n4 65 ((cs.drop 4).take (Tryz.prog.cellsOf 65))=some y4:=g4;rw[(by kernel_rfl:Tryz.prog.cellsOf 65=7)]at g4;obtain⟨r,e4,v4⟩:=Vd g4;have hcs:cs=[.int .i64 a0,.int .i64 a1,.int .i64 a2,.string a3]++r.cells:=by
  show cs.drop 0=_;rw[Bn cs 0 1 1 rfl,e0,Bn cs 1 1 2 rfl,e1,Bn cs 2 1 3 rfl,e2,Bn cs 3 1 4 rfl,e3,Bn cs 4 7 11 rfl,e4,hd];rfl
 exact⟨⟨a0,a1,a2,a3,r⟩,hcs,⟨v0,v1,v2,v4⟩⟩
end
theorem Nq{n:Nat}{cs:List Value}:∀{xs:List (List Value)} {off:Nat},(∀x∈xs,x.length=n)->(∀(i:Nat) (x:List Value),xs[i]?=some x->∀(j:Nat) (u:Value),x[j]?=some u->cs[off+i*n+j]?=some u)->aG cs off (xs.length*n)=xs.flatten
 | [],off,_,_=>by simp[aG]
 |x::xs,off,hl,h=>by
  have hx:x.length=n:=hl x Jb4;have ih:=Nq (n:=n) (cs:=cs) (xs:=xs) (off:=off+n) (λy hy=>hl y (Jb2 _ hy)) λi y hy j u hu=>by
   have:=h (i+1) y (by simpa using hy) j u hu;rw[Nat.add_mul,Nat.one_mul]at this;rw[<-this];congr 1;omega
  have e:(cs.drop off).take n=x:=by
   refine Jcd λj=>?_
   rw[Jc5];by_cases hj:j<n
   .rw[Jb6 hj,Jcf]
    have hu:x[j]?=some (x[j]'(by omega)):=Jcc (by omega);rw[hu];have:=h 0 x rfl j _ hu;rwa [Jc7,Nat.add_zero]at this
   .rw[Jb5 hj,Jcg (by omega)]
  unfold aG at ih |-;rw[length_cons,Nat.add_mul,Nat.one_mul,Nat.add_comm,take_add,e,drop_drop,ih,Jfw]
theorem aaF{W:World}{a:Option Addr}{len cap:Nat}{l:List Stp}(h:aaY W.heap.size W ⟨a,len,cap⟩ 11 (l.map Stp.cells)):len=l.length/\l.length<=9223372036854775807/\FzZ W 11 (.slice a l.length cap) l.length (l.map Stp.cells).flatten:=by
 have e1:len=l.length:=by have:=h.len;simpa using this
 have h2:len<=cap:=h.le;have h3:cap<=maxLen:=h.max;have e3:maxLen=9223372036854775807:=by decide
 have hlen:∀x∈l.map Stp.cells,x.length=11:=λx hx=>by
  obtain⟨t,_,rfl⟩:=Jdb.1 hx;rfl
 refine⟨e1,by omega,a,cap,rfl,by omega,?_,?_⟩
 .have:∀(xs:List (List Value)),(∀x∈xs,x.length=11)->xs.flatten.length=xs.length*11:=λxs=>by
   induction xs with
   |nil=>intro _;rfl
   |cons x xs ih =>
    intro hx;rw[Jfw,Jc6,ih (λy hy=>hx y (Jb2 _ hy)),hx x Jb4,length_cons];omega
  rw[this _ hlen,Jf6]
 .by_cases h0:l.length=0
  .exact .inl h0
  .obtain⟨b,off,ha,hb,hc⟩:=h.at' (by show 0<len;omega)
   have ha:a=some ⟨b,off,none⟩:=ha;obtain⟨t,ht⟩:∃t,l[0]?=some t:=⟨l[0],by simp[show 0<l.length by omega]⟩;have hc0:=hc 0 t.cells (by rw[Jdd,ht];rfl) 0 (.int .i64 t.kind) rfl;cases ho:W.heap[b]? with
   |none=>simp[World.cell?,ho]at hc0
   |some o =>
    cases o with
    |cells cs ty z =>
     refine .inr ⟨b,off,cs,ty,z,ha,ho,?_⟩;have:=Nq (cs:=cs.toList) (xs:=l.map Stp.cells) (off:=off) hlen λi x hx j u hu=>by
      have:=hc i x hx j u hu;rw[cell_of_row W b _ cs ty z ho]at this;rw[Jdw];exact this
     rwa [Jf6]at this
    |_=>simp[World.cell?,ho]at hc0
end
section
open Go Go.Conc
def bH.L(a b:bH):Prop:=a.n<b.n\/a.n=b.n/\a.id<b.id
def bH.E(a b:bH):Prop:=a.n<b.n\/a.n=b.n/\a.id<=b.id
section
variable{a b c:bH}
theorem bH.adD:a.lt b=true↔a.L b:=by unfold bH.lt bH.L;simp
theorem bH.Y1(h:¬a.L b):b.E a:=by unfold bH.L at h;unfold bH.E;omega
theorem bH.not_lt(h:¬a.lt b=true):b.E a:=bH.Y1 λk=>h (bH.adD.2 k)
theorem bH.E.refl(a:bH):a.E a:=.inr ⟨rfl,Jb0 _⟩
theorem bH.E.trans(h:a.E b)(k:b.E c):a.E c:=by unfold bH.E at *;omega
theorem bH.L.e(h:a.L b):a.E b:=by unfold bH.E;unfold bH.L at h;omega
theorem bH.L.le(h:a.L b)(k:b.E c):a.L c:=by unfold bH.E at k;unfold bH.L at *;omega
theorem bH.L.no(h:a.L b)(k:b.E a):False:=by unfold bH.E at k;unfold bH.L at h;omega
theorem bH.ext'(h:a.n=b.n)(k:a.id=b.id):a=b:=by cases a;cases b;cases h;cases k;rfl
theorem bH.E.cases(h:a.E b):a=b\/a.L b:=by
 by_cases e:a.n=b.n/\a.id=b.id
 .exact .inl (bH.ext' e.1 e.2)
 .exact .inr (by unfold bH.E at h;unfold bH.L;omega)
end
def Most(sz:Nat)(p:Nat->Prop):Prop:=∃m:Nat,2*pc m>sz/\∀k,k<5->m.testBit k=true->k<sz/\p k
theorem HZ{α:Type}{p q r:α->Bool}:∀{l:List α},(∀x∈l,p x=true->q x=true->False)->(∀x∈l,p x=true\/q x=true->r x=true)->l.countP p+l.countP q<=l.countP r
 | [],_,_=>Jb0 _
 |x::l,h1,h2=>by
  have ih:=HZ (l:=l) (λy hy=>h1 y (Jb2 _ hy)) (λy hy=>h2 y (Jb2 _ hy));have a1:=h1 x Jb4;have a2:=h2 x Jb4;simp only[countP_cons];cases hp:p x<;>cases hq:q x<;>cases hr:r x<;>simp_all<;>omega
theorem Nr(sz:Nat):∀n,(List.range n).countP (λk=>decide (k<sz))<=sz
 |0=>Jcm _
 |n+1=>by
  have ih:=Nr sz n;rw[Jc2,countP_append];by_cases h:n<sz
  .have:(List.range n).countP (λk=>decide (k<sz))<=n:=by have:=countP_le_length (p:=λk=>decide (k<sz)) (l:=List.range n);simpa using this
   simp[h];omega
  .simp[h];omega
theorem Most.meet{sz:Nat}{p q:Nat->Prop}(h:Most sz p)(k:Most sz q):∃i,p i/\q i:=by
 obtain⟨m,h1,h2⟩:=h;obtain⟨n,k1,k2⟩:=k;refine Jg8 λno=>?_
 have:=HZ (p:=λi=>m.testBit i) (q:=λi=>n.testBit i) (r:=λi=>decide (i<sz)) (l:=List.range 5) (λi hi a b=>no ⟨i,(h2 i (Jc3.1 hi) a).2,(k2 i (Jc3.1 hi) b).2⟩) (λi hi a=>Jg1 (a.elim (λa=>(h2 i (Jc3.1 hi) a).1) (λa=>(k2 i (Jc3.1 hi) a).1)));have:=Nr sz 5;unfold pc at h1 k1;omega
theorem Most.mono{sz:Nat}{p q:Nat->Prop}(h:Most sz p)(k:∀i,p i->q i):Most sz q:=by
 obtain⟨m,h1,h2⟩:=h;exact⟨m,h1,λi hi hm=>⟨(h2 i hi hm).1,k i (h2 i hi hm).2⟩⟩
theorem J3{c r k:Nat}(h:(jl c r).testBit k=true):c.testBit k=true\/k=r:=by
 unfold jl at h;rw[Nat.testBit_or,Nat.one_shiftLeft,Nat.testBit_two_pow]at h;simp only[Bool.or_eq_true,Jdr]at h;exact h.imp id Eq.symm
structure Gh where
 P:bH->Nat->Option MC
 V:Nat->bH->Nat->Prop
 B:Nat->bH
def Gh.Safe(sz:Nat)(Γ:Gh)(b:bH)(s:Nat)(c:MC):Prop:=∀b':bH,b'.L b->Most sz λk=>b'.L (Γ.B k)/\(Γ.V k b' s->Γ.P b' s=some c)
def Gh.D(sz:Nat)(Γ:Gh)(s:Nat)(c:MC):Prop:=∃b,Γ.P b s=some c/\Most sz λk=>Γ.V k b s
structure Gh.Ok(sz:Nat)(U:MC->Prop)(Γ:Gh):Prop where
 vp:∀{i b s},Γ.V i b s->i<sz/\b.E (Γ.B i)/\∃c,Γ.P b s=some c
 pb:∀{b s c},Γ.P b s=some c->b.E (Γ.B b.id)/\b.n<=4294967295/\b.id<256
 safe:∀{b s c},Γ.P b s=some c->Γ.Safe sz b s c
 wh:∀{b s c},Γ.P b s=some c->U c/\s<60
structure Ext(Γ Γ':Gh):Prop where
 P:∀{b s c},Γ.P b s=some c->Γ'.P b s=some c
 V:∀{k b s},Γ.V k b s->Γ'.V k b s
 B:∀k,(Γ.B k).E (Γ'.B k)
 late:∀{k b s},Γ'.V k b s->b.L (Γ.B k)->Γ.V k b s
structure yj(i:Nat)(Γ Γ':Gh):Prop extends Ext Γ Γ' where
 P':∀{b s},b.id≠i->Γ'.P b s=Γ.P b s
 V':∀{k b s},k≠i->Γ'.V k b s->Γ.V k b s
 B':∀{k},k≠i->Γ'.B k=Γ.B k
section
variable{sz:Nat}{U:MC->Prop}{Γ Γ' Γ'':Gh}
theorem Gh.Ok.one(h:Γ.Ok sz U){s:Nat}{c c':MC}(h1:Γ.D sz s c)(h2:Γ.D sz s c'):c=c':=by
 obtain⟨b,p1,m1⟩:=h1;obtain⟨b',p2,m2⟩:=h2;by_cases e:b.L b'
 .obtain⟨k,⟨_,a1⟩,a2⟩:=(h.safe p2 b e).meet m1
  have:=(a1 a2).symm.trans p1;cases this;rfl
 .rcases(bH.Y1 e).cases with rfl|e
  .cases p1.symm.trans p2;rfl
  .obtain⟨k,⟨_,a1⟩,a2⟩:=(h.safe p1 b' e).meet m2
   have:=(a1 a2).symm.trans p2;cases this;rfl
theorem Gh.Ok.mono{U':MC->Prop}(h:Γ.Ok sz U)(k:∀c,U c->U' c):Γ.Ok sz U':=⟨h.vp,h.pb,h.safe,λp=>⟨k _ (h.wh p).1,(h.wh p).2⟩⟩
def DL(sz:Nat)(Γ:Gh)(l:List MC):Prop:=∀(k:Nat) (c:MC),l[k]?=some c->Γ.D sz k c
theorem Ext.refl(Γ:Gh):Ext Γ Γ:=⟨λh=>h,λh=>h,λ_=>.refl _,λh _=>h⟩
theorem Ext.trans(h:Ext Γ Γ')(k:Ext Γ' Γ''):Ext Γ Γ'':=⟨λx=>k.P (h.P x),λx=>k.V (h.V x),λi=>(h.B i).trans (k.B i),λx l=>h.late (k.late x (l.le (h.B _))) l⟩
theorem yj.refl(i:Nat)(Γ:Gh):yj i Γ Γ:=⟨.refl _,λ_=>rfl,λ_ h=>h,λ_=>rfl⟩
theorem yj.trans{i:Nat}(h:yj i Γ Γ')(k:yj i Γ' Γ''):yj i Γ Γ'':=⟨h.toExt.trans k.toExt,λe=>(k.P' e).trans (h.P' e),λe x=>h.V' e (k.V' e x),λe=>(k.B' e).trans (h.B' e)⟩
theorem Gh.Safe.ext(e:Ext Γ Γ'){b:bH}{s:Nat}{c:MC}(h:Γ.Safe sz b s c):Γ'.Safe sz b s c:=λb' l=>(h b' l).mono λk ⟨h1,h2⟩=>⟨h1.le (e.B k),λv=>e.P (h2 (e.late v h1))⟩
theorem Gh.D.ext(e:Ext Γ Γ'){s:Nat}{c:MC}(h:Γ.D sz s c):Γ'.D sz s c:=by
 obtain⟨b,h1,h2⟩:=h;exact⟨b,e.P h1,h2.mono λ_=>e.V⟩
theorem DL.ext(e:Ext Γ Γ'){l:List MC}(h:DL sz Γ l):DL sz Γ' l:=λk c hk=>(h k c hk).ext e
end
def Gh.add(Γ:Gh)(i:Nat)(b:bH)(s:Nat)(c:MC):Gh:=⟨λb' s'=>if b'=b/\s'=s then some c else Γ.P b' s',λk b' s'=>(k=i/\b'=b/\s'=s)\/Γ.V k b' s',Γ.B⟩
def Gh.rise(Γ:Gh)(i:Nat)(b:bH):Gh:=⟨Γ.P,Γ.V,λk=>if k=i then b else Γ.B k⟩
section
variable{sz:Nat}{U:MC->Prop}{Γ:Gh}{i:Nat}{b:bH}
theorem Gh.ae1{s:Nat}{c:MC}(h:Γ.P b s=none\/Γ.P b s=some c){b':bH}{s':Nat}{c':MC}(k:Γ.P b' s'=some c'):(Γ.add i b s c).P b' s'=some c':=by
 unfold Gh.add;show(if _ then _ else _)=_;split
 .rename_i e
  obtain⟨rfl,rfl⟩:=e;rcases h with h|h
  .rw[h]at k;cases k
  .exact h.symm.trans k
 .exact k
theorem Gh.A8{s:Nat}{c:MC}(h:Γ.P b s=none/\b.id=i\/Γ.P b s=some c)(hb:Γ.B i=b):yj i Γ (Γ.add i b s c):=by
 have h':Γ.P b s=none\/Γ.P b s=some c:=h.imp (λh=>h.1) λh=>h
 refine⟨⟨λk=>Gh.ae1 h' k,λv=>.inr v,λ_=>.refl _,λv l=>?_⟩,λ{b' s'} e=>?_,λe v=>?_,λ_=>rfl⟩
 .rcases v with⟨rfl,rfl,rfl⟩|v
  .rw[hb]at l;exact(l.no (.refl _)).elim
  .exact v
 .show(if _ then _ else _)=_
  split
  .rename_i f
   obtain⟨rfl,rfl⟩:=f;rcases h with h|h
   .exact(e h.2).elim
   .exact h.symm
  .rfl
 .rcases v with⟨f,_⟩|v
  .exact(e f).elim
  .exact v
theorem Gh.Ok.add(o:Γ.Ok sz U){s:Nat}{c:MC}(h:Γ.P b s=none/\b.id=i\/Γ.P b s=some c)(hb:Γ.B i=b)(hi:i<sz)(h8:b.n<=4294967295/\b.id<256)(hs:Γ.Safe sz b s c)(hU:U c/\s<60):(Γ.add i b s c).Ok sz U:=by
 have e:=(Gh.A8 h hb).toExt;refine⟨λv=>?_,λ{b' s' c'} p=>?_,λ{b' s' c'} p=>?_,λ{b' s' c'} p=>?_⟩
 .rcases v with⟨rfl,rfl,rfl⟩|v
  .exact⟨hi,by show bH.E _ (Γ.B _);rw[hb];exact .refl _,c,Jb6 ⟨rfl,rfl⟩⟩
  .obtain⟨a1,a2,c',a3⟩:=o.vp v
   exact⟨a1,a2,c',e.P a3⟩
 .replace p:(if b'=b/\s'=s then some c else Γ.P b' s')=some c':=p
  split at p
  .rename_i f
   obtain⟨rfl,rfl⟩:=f;refine⟨?_,h8⟩;show bH.E b' (Γ.B b'.id);rcases h with h|h
   .rw[h.2,hb];exact .refl _
   .exact(o.pb h).1
  .exact o.pb p
 .replace p:(if b'=b/\s'=s then some c else Γ.P b' s')=some c':=p
  split at p
  .rename_i f
   obtain⟨rfl,rfl⟩:=f;cases p
   exact hs.ext e
  .exact(o.safe p).ext e
 .replace p:(if b'=b/\s'=s then some c else Γ.P b' s')=some c':=p
  split at p
  .rename_i f;obtain⟨rfl,rfl⟩:=f;cases p;exact hU
  .exact o.wh p
theorem Gh.ym(h:(Γ.B i).E b):yj i Γ (Γ.rise i b):=by
 refine⟨⟨λh=>h,λh=>h,λk=>?_,λh _=>h⟩,λ_=>rfl,λ_ h=>h,λe=>Jb5 e⟩;show bH.E _ (if _ then _ else _);split
 .rename_i e;subst e;exact h
 .exact .refl _
theorem Gh.Ok.rise(o:Γ.Ok sz U)(h:(Γ.B i).E b):(Γ.rise i b).Ok sz U:=by
 have e:=(Gh.ym h).toExt;refine⟨λv=>?_,λp=>?_,λp=>(o.safe p).ext e,λp=>o.wh p⟩
 .obtain⟨a1,a2,a3⟩:=o.vp v
  exact⟨a1,a2.trans (e.B _),a3⟩
 .obtain⟨a1,a2⟩:=o.pb p
  exact⟨a1.trans (e.B _),a2⟩
theorem Gh.Ve:(Γ.rise i b).B i=b:=Jb6 rfl
end
def bH.W(b:bH):Prop:=b.n<=4294967295/\b.id<256
structure MF(sz:Nat)(Γ:Gh)(j:Nat)(m:MM):Prop where
 prom:m.kind=4->m.b.E (Γ.B j)/\(∀v∈m.vs,Γ.P v.b v.slot=some v.c/\v.b.E m.b)/\∀b s,b.L m.b->Γ.V j b s->∃v∈m.vs,v.slot=s/\b.E v.b
 acc:m.kind=6->Γ.P m.b m.s=some m.c
 ru:m.kind=7->Γ.V j m.b m.s
 dec:m.kind=8->Γ.D sz m.s m.c
def bR(A:aI)(s:St)(l:List MC):St:=l.foldl (λs c=>(A.ap s c).1) s
def Laid(A:aI)(sz n:Nat)(Γ:Gh)(K g:Nat)(d:Int)(r:Rg):Prop:=r.src=g/\r.dst=d/\∃l,DL sz Γ l/\l.length<=K/\∃o,(bR A (A.bg g n) l).O[d.toNat]?=some o/\r∈o.2
def Came(A:aI)(sz n:Nat)(Γ:Gh)(K g:Nat)(d:Int)(s:Int):Prop:=∃l,DL sz Γ l/\l.length<=K/\s<=(bR A (A.bg g n) l).I.getD d.toNat 0
def TL(A:aI)(n:Nat)(l:List MC)(g:Nat)(p:ag):Prop:=(∃j c,l[j]?=some c/\c.kind=1/\p=(A.ap (bR A (A.bg g n) (l.take j)) c).2)\/∃j q,j<=l.length/\A.gc (fM q)/\p=(A.ap (bR A (A.bg g n) (l.take j)) (fM q)).2/\p∈(bR A (A.bg g n) (l.take j)).D
def TD(A:aI)(sz n:Nat)(Γ:Gh)(K g:Nat)(p:ag):Prop:=∃l,DL sz Γ l/\l.length<=K/\TL A n l g p
structure PF(A:aI)(sz n:Nat)(Γ:Gh)(K g j:Nat)(p:bF)(m:MM):Prop where
 mf:MF sz Γ j m
 pax:3<=m.kind->m.kind<=8->p.tg=g/\sz≠1/\m.b.id<256
 lU:m.kind=9->Laid A sz n Γ K g p.tg m.r
 jH:m.kind=10->m.peer=g/\Came A sz n Γ K g p.tg m.seq
structure vR(A:aI)(sz n:Nat)(Γ:Gh)(K g j:Nat)(p:bF):Prop where
 m:∀m,A.dec p.d=some m->PF A sz n Γ K g j p m
 t:p.tg=255->g<255->∃x:ag,p.d=A.enc {aL 2 with p:=x}/\p.tr=x.c.toNat/\TD A sz n Γ K g x
structure uG(A:aI):Prop where
 fO:∀{k:Int} {b:bH} {m:MM},k=3\/k=5->b.W->A.dec (A.enc {aL k with b:=b})=some m->m={aL k with b:=b}
 prom:∀{b:bH} {vs:List MV} {m:MM},b.W->vs.length<=60->(∀v∈vs,A.gc v.c/\v.slot<60/\v.b.W)->A.dec (A.enc {aL 4 with b:=b,vs:=vs})=some m->m={aL 4 with b:=b,vs:=vs}
 acc:∀{b:bH} {s:Nat} {c:MC} {m:MM},b.W->s<60->A.gc c->A.dec (A.enc {aL 6 with b:=b,s:=s,c:=c})=some m->m={aL 6 with b:=b,s:=s,c:=c}
 ru:∀{b:bH} {s:Nat} {m:MM},b.W->s<60->A.dec (A.enc {aL 7 with b:=b,s:=s})=some m->m={aL 7 with b:=b,s:=s}
 dec:∀{s:Nat} {c:MC} {m:MM},s<60->A.gc c->A.dec (A.enc {aL 8 with s:=s,c:=c})=some m->m={aL 8 with s:=s,c:=c}
 tell:∀{m m':MM},m.kind=2->A.dec (A.enc m)=some m'->m'.kind=2
 ask:∀{q:aW} {m:MM},A.gc (fM q)->A.dec (A.enc {aL 1 with q:=q})=some m->m={aL 1 with q:=q}
 lU:∀{r:Rg} {m:MM},A.gc (lL r)->A.dec (A.enc {aL 9 with r:=r})=some m->m={aL 9 with r:=r}
 jH:∀{p s:Int} {m:MM},A.gc (pU p s)->A.dec (A.enc {aL 10 with peer:=p,seq:=s})=some m->m={aL 10 with peer:=p,seq:=s}
 dst:∀{g n:Nat} {l:List MC},(∀c∈l,A.gc c)->∀(d:Nat) o,(bR A (A.bg g n) l).O[d]?=some o->∀r∈o.2,r.dst=d
def ahF(A:aI):Prop:=∀{k:Nat} (s:St) (c:MC),k<=60->A.good k s->A.gc c->∀i:Nat,s.I.getD i 0<=(A.ap s c).1.I.getD i 0
structure ahG(Γ:Gh)(R:MR):Prop where
 prom:∀{k},R.sc.prom.testBit k=true->k<R.sc.sz/\R.sc.b.E (Γ.B k)/\∀{b s},b.L R.sc.b->Γ.V k b s->∃v,R.met s=some v/\b.E v.b
 met:∀{s v},R.met s=some v->Γ.P v.b s=some v.c/\v.b.E R.sc.b
 has:∀{s c},Γ.P R.sc.b s=some c->∃v,R.met s=some v/\v.b=R.sc.b
structure ahH(Γ:Gh)(R:MR):Prop where
 none:∀{s},R.sc.next<=s->Γ.P R.sc.b s=none
 most:Most R.sc.sz λk=>R.sc.b.E (Γ.B k)/\∀s,R.sc.next<=s->∀b:bH,b.L R.sc.b->¬Γ.V k b s
structure RV(A:aI)(N:Nat)(Γ:Gh)(R:MR):Prop where
 fO:Γ.B R.sc.i=R.sc.b
 sn:R.sc.b.n<=R.sc.seen
 mr:R.sc.b.id<256
 one:R.sc.sz=1->R.sc.b=⟨0,0⟩
 vt:∀{s v},R.cZ s=some v->Γ.V R.sc.i v.b s/\Γ.P v.b s=some v.c
 wt:∀{s v},R.fJ s=some v->Γ.V R.sc.i v.b s/\Γ.P v.b s=some v.c
 vv:∀{b s},Γ.V R.sc.i b s->∃v,R.cZ s=some v/\b.E v.b
 own:R.sc.b.id=R.sc.i->∀{s c},Γ.P R.sc.b s=some c->∃v,R.cZ s=some v/\v.b=R.sc.b
 rC:R.sc.role≠0->R.sc.b.id=R.sc.i
 r0:R.sc.role=0->R.sc.prom=0/\∀s,R.met s=none
 eU:R.sc.role=1->ahG Γ R
 lead:R.sc.role=2->ahH Γ R
 pp:∀{s c},R.props s=some c->R.sc.role=2/\Γ.P R.sc.b s=some c
 ac:∀{s a},R.acc s=some a->R.sc.role=2/\∀{k},a.testBit k=true->Γ.V k R.sc.b s
 lg:∀{k c},R.log[k]?=some c->Γ.D R.sc.sz k c
 kn:∀{k c},R.known k=some c->Γ.D R.sc.sz k c
 st:R.st=bR A (A.bg R.sc.g R.sc.gs) R.log
 ou:∀p∈R.out,vR A R.sc.sz R.sc.gs Γ R.log.length R.sc.g R.sc.i p
 ll:N<=R.log.length
 gd:A.good R.log.length R.st/\R.sc.g<R.sc.gs/\R.sc.gs<=4/\R.st.g=R.sc.g
theorem MF.ext{sz j:Nat}{Γ Γ':Gh}(e:Ext Γ Γ'){m:MM}(h:MF sz Γ j m):MF sz Γ' j m:=by
 refine⟨λk=>?_,λk=>e.P (h.acc k),λk=>e.V (h.ru k),λk=>(h.dec k).ext e⟩;obtain⟨h1,h2,h3⟩:=h.prom k;exact⟨h1.trans (e.B j),λv hv=>⟨e.P (h2 v hv).1,(h2 v hv).2⟩,λb s l v=>h3 b s l (e.late v (l.le h1))⟩
section
variable{A:aI}{sz n g j K K':Nat}{Γ Γ':Gh}{d:Int}
theorem Laid.ext(e:Ext Γ Γ')(hK:K<=K'){r:Rg}(h:Laid A sz n Γ K g d r):Laid A sz n Γ' K' g d r:=by
 obtain⟨h1,h2,l,h3,h4,h5⟩:=h;exact⟨h1,h2,l,h3.ext e,Jb1 h4 hK,h5⟩
theorem Came.ext(e:Ext Γ Γ')(hK:K<=K'){s:Int}(h:Came A sz n Γ K g d s):Came A sz n Γ' K' g d s:=by
 obtain⟨l,h3,h4,h5⟩:=h;exact⟨l,h3.ext e,Jb1 h4 hK,h5⟩
theorem vR.ext(e:Ext Γ Γ')(hK:K<=K'){p:bF}(h:vR A sz n Γ K g j p):vR A sz n Γ' K' g j p:=⟨λm hm=>⟨(h.m m hm).mf.ext e,(h.m m hm).pax,λk=>((h.m m hm).lU k).ext e hK,λk=>⟨((h.m m hm).jH k).1,((h.m m hm).jH k).2.ext e hK⟩⟩,λa b=>by
 obtain⟨x,h1,h2,l,h3,h4,h5⟩:=h.t a b;exact⟨x,h1,h2,l,h3.ext e,Jb1 h4 hK,h5⟩⟩
theorem vR.of{p:bF}{m:MM}(hb:∀m',A.dec p.d=some m'->m'=m)(hm:MF sz Γ j m)(k8:m.kind<=8)(ht:p.tg=g/\sz≠1/\m.b.id<256):vR A sz n Γ K g j p:=⟨λm' hd=>by
 rw[hb m' hd];exact⟨hm,λ_ _=>ht,λe=>by omega,λe=>by omega⟩,λa b=>by have:=ht.1;omega⟩
end
section
variable{A:aI}{N:Nat}{U:MC->Prop}{Γ Γ':Gh}{R:MR}
theorem RV.other{i:Nat}(h:RV A N Γ R)(e:yj i Γ Γ')(ne:R.sc.i≠i):RV A N Γ' R:=by
 have x:=e.toExt;refine⟨(e.B' ne).trans h.fO,h.sn,h.mr,h.one,λhv=>⟨x.V (h.vt hv).1,x.P (h.vt hv).2⟩,λhv=>⟨x.V (h.wt hv).1,x.P (h.wt hv).2⟩,λhv=>h.vv (e.V' ne hv),λhi s c hp=>h.own hi ((e.P' (λq=>ne (hi.symm.trans q))).symm.trans hp),h.rC,h.r0,λr=>?_,λr=>?_,λhp=>⟨(h.pp hp).1,x.P (h.pp hp).2⟩,λha=>⟨(h.ac ha).1,λhk=>x.V ((h.ac ha).2 hk)⟩,λhk=>(h.lg hk).ext x,λhk=>(h.kn hk).ext x,h.st,λp hp=>(h.ou p hp).ext x (Jb0 _),h.ll,h.gd⟩
 .have c:=h.eU r
  have ri:R.sc.b.id≠i:=by rw[h.rC (by omega)];exact ne
  exact⟨λhk=>⟨(c.prom hk).1,(c.prom hk).2.1.trans (x.B _),λl v=>(c.prom hk).2.2 l (x.late v (l.le (c.prom hk).2.1))⟩,λhm=>⟨x.P (c.met hm).1,(c.met hm).2⟩,λhp=>c.has ((e.P' ri).symm.trans hp)⟩
 .have c:=h.lead r
  have ri:R.sc.b.id≠i:=by rw[h.rC (by omega)];exact ne
  exact⟨λhs=>(e.P' ri).trans (c.none hs),c.most.mono λk ⟨a1,a2⟩=>⟨a1.trans (x.B k),λs hs b l v=>a2 s hs b l (x.late v (l.le a1))⟩⟩
theorem RV.out(h:RV A N Γ R){o:List bF}(ho:∀p∈o,vR A R.sc.sz R.sc.gs Γ R.log.length R.sc.g R.sc.i p):RV A N Γ {R with out:=o} :=
 ⟨h.fO,h.sn,h.mr,h.one,h.vt,h.wt,h.vv,h.own,h.rC,h.r0,λr=>⟨(h.eU r).1,(h.eU r).2,(h.eU r).3⟩,λr=>⟨(h.lead r).1,(h.lead r).2⟩,h.pp,h.ac,h.lg,h.kn,h.st,ho,h.ll,h.gd⟩
theorem RV.snd(h:RV A N Γ R){m:MM}{tl:List (Nat×Nat)}(hm:∀t∈tl,vR A R.sc.sz R.sc.gs Γ R.log.length R.sc.g R.sc.i (toP R (A.enc m) t)):RV A N Γ (mh A.enc R m tl):=by
 refine h.out λp hp=>?_
 rcases Jdc.1 hp with hp|hp
 .exact h.ou p hp
 .obtain⟨t,ht,rfl⟩:=Jdb.1 hp
  exact hm t ht
theorem RV.stand(h:RV A N Γ R):RV A N Γ (gF R) :=
 ⟨h.fO,h.sn,h.mr,h.one,h.vt,h.wt,h.vv,h.own,λr=>(r rfl).elim,λ_=>⟨rfl,λ_=>rfl⟩,λr=>absurd (show(0:Nat)=1 from r) (by decide),λr=>absurd (show(0:Nat)=2 from r) (by decide),nofun,nofun,h.lg,h.kn,h.st,h.ou,h.ll,h.gd⟩
theorem RV.rise{b:bH}{sn:Nat}(o:Γ.Ok R.sc.sz U)(h:RV A N Γ R)(h0:R.sc.role=0)(hb:R.sc.b.L b)(hn:b.n<=sn)(h8:b.id<256)(h1:R.sc.sz≠1):RV A N (Γ.rise R.sc.i b) {R with sc:={R.sc with b:=b,seen:=sn} }/\∀s c,b.id=R.sc.i->Γ.P b s≠some c:=by
 have fresh:∀s c,b.id=R.sc.i->Γ.P b s≠some c:=λs c hi hp=>by
  have:=(o.pb hp).1;rw[hi,h.fO]at this;exact hb.no this
 have x:=(Gh.ym (Γ:=Γ) (i:=R.sc.i) (b:=b) (by rw[h.fO];exact hb.e)).toExt;refine⟨⟨Gh.Ve,hn,h8,λe=>(h1 e).elim,h.vt,h.wt,h.vv,λhi s c hp=>(fresh s c hi hp).elim,λr=>(r h0).elim,h.r0,λr=>?_,λr=>?_,λhp=>?_,λha=>?_,λhk=>(h.lg hk).ext x,λhk=>(h.kn hk).ext x,h.st,λp hp=>(h.ou p hp).ext x (Jb0 _),h.ll,h.gd⟩,fresh⟩
 .have r:R.sc.role=1:=r
  omega
 .have r:R.sc.role=2:=r
  omega
 .have:=(h.pp hp).1;omega
 .have:=(h.ac ha).1;omega
theorem zD{α:Type}(f:Nat->Option α)(k:Nat)(x:Option α):upd f k x k=x:=Jb6 rfl
theorem upd_ne{α:Type}(f:Nat->Option α){k j:Nat}(x:Option α)(h:j≠k):upd f k x j=f j:=Jb5 h
theorem RV.E5{s:Nat}{c:MC}(o:Γ.Ok R.sc.sz U)(h:RV A N Γ R)(hP:Γ.P R.sc.b s=none\/Γ.P R.sc.b s=some c)(hs:Γ.P R.sc.b s=some c\/R.sc.role=2/\s<R.sc.next):RV A N (Γ.add R.sc.i R.sc.b s c) (uu R s c):=by
 have hP':Γ.P R.sc.b s=none/\R.sc.b.id=R.sc.i\/Γ.P R.sc.b s=some c:=by
  rcases hs with hs|⟨hs,_⟩
  .exact .inr hs
  .exact hP.imp (λe=>⟨e,h.rC (by omega)⟩) id
 have x:=(Gh.A8 hP' h.fO).toExt;have new:(Γ.add R.sc.i R.sc.b s c).P R.sc.b s=some c:=Jb6 ⟨rfl,rfl⟩;have old:∀{b s'},s'≠s->(Γ.add R.sc.i R.sc.b s c).P b s'=Γ.P b s':=λe=>Jb5 λq=>e q.2
 refine⟨h.fO,h.sn,h.mr,h.one,λ{s' v} hv=>?_,λhv=>⟨x.V (h.wt hv).1,x.P (h.wt hv).2⟩,λ{b s'} hv=>?_,λhi s' c' hp=>?_,h.rC,h.r0,λr=>?_,λr=>?_,λhp=>⟨(h.pp hp).1,x.P (h.pp hp).2⟩,λha=>⟨(h.ac ha).1,λhk=>x.V ((h.ac ha).2 hk)⟩,λhk=>(h.lg hk).ext x,λhk=>(h.kn hk).ext x,h.st,λp hp=>(h.ou p hp).ext x (Jb0 _),h.ll,h.gd⟩
 .have hv:upd R.cZ s (some ⟨s,R.sc.b,c⟩) s'=some v:=hv
  by_cases e:s'=s
  .subst e
   rw[zD]at hv;cases hv
   exact⟨.inl ⟨rfl,rfl,rfl⟩,new⟩
  .rw[upd_ne _ _ e]at hv
   exact⟨x.V (h.vt hv).1,x.P (h.vt hv).2⟩
 .show ∃v,upd R.cZ s (some ⟨s,R.sc.b,c⟩) s'=some v/\_
  by_cases e:s'=s
  .subst e
   refine⟨_,zD _ _ _,?_⟩;rcases hv with⟨_,rfl,_⟩|hv
   .exact .refl _
   .have:b.E (Γ.B R.sc.i):=(o.vp hv).2.1
    rw[h.fO]at this;exact this
  .rw[upd_ne _ _ e]
   rcases hv with⟨_,_,q⟩|hv
   .exact(e q).elim
   .exact h.vv hv
 .show ∃v,upd R.cZ s (some ⟨s,R.sc.b,c⟩) s'=some v/\_
  by_cases e:s'=s
  .subst e
   exact⟨_,zD _ _ _,rfl⟩
  .rw[upd_ne _ _ e]
   exact h.own hi ((old e).symm.trans hp)
 .have r:R.sc.role=1:=r
  have cc:=h.eU r;have hp:Γ.P R.sc.b s=some c:=hs.elim id λq=>by omega
  refine⟨λhk=>⟨(cc.prom hk).1,(cc.prom hk).2.1,λl v=>(cc.prom hk).2.2 l (x.late v (l.le (cc.prom hk).2.1))⟩,λhm=>⟨x.P (cc.met hm).1,(cc.met hm).2⟩,λ{s' c'} hq=>?_⟩;by_cases e:s'=s
  .subst e;exact cc.has hp
  .exact cc.has ((old e).symm.trans hq)
 .have r:R.sc.role=2:=r
  have cc:=h.lead r;refine⟨λ{s'} hn=>?_,cc.most.mono λk ⟨a1,a2⟩=>⟨a1,λs' hn b l v=>a2 s' hn b l (x.late v (l.le a1))⟩⟩;have hn:R.sc.next<=s':=hn;by_cases e:s'=s
  .subst e
   rcases hs with hs|hs
   .have:=cc.none hn;rw[hs]at this;cases this
   .omega
  .exact(old e).trans (cc.none hn)
end
end
