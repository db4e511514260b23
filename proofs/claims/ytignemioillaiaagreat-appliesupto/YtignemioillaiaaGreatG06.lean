/- Maps of keys as plain lists: whose a key is, what a gift makes of a map, that a map is known by its owners: no program text here. -/
import Derived.Test.YtignemioillaiaaGreatG03
import Derived.Deep.QuietTactic
import Derived.BigQuiet
namespace Go.Proofs.YtignemioillaiaaGreat
set_option maxHeartbeats 8000000
set_option maxRecDepth 100000
section
open Go.RowKit
structure Pc where
 (f g:Int)
def Pc.cells (p:Pc):List Value:=[.int .u64 p.f,.int .u8 p.g]
def own:Int→List Pc→Int→Int
 | d,[],_=>d
 | d,p::m,k=>if p.f≤k then own p.g m k else d
def AV:Int→Int→List Pc→Prop
 | _,_,[]=>True
 | f,g,p::m=>f<p.f∧p.f<18446744073709551616∧g≠p.g∧0≤p.g∧p.g<4∧AV p.f p.g m
def Can:List Pc→Prop
 | []=>False
 | p::m=>p.f=0∧0≤p.g∧p.g<4∧AV 0 p.g m
def FH:Int→List Pc→Int
 | f,[]=>f
 | _,p::m=>FH p.f m
def Hy:Int→List Pc→Int
 | g,[]=>g
 | _,p::m=>Hy p.g m
def join (L:List Pc) (p:Pc):List Pc:=match L.getLast? with
 | none=>L++[p]
 | some y=>if y.g=p.g then L else L++[p]
theorem Zd (L:List Pc) (p:Pc) (k:Int):∀ d,(∀ q∈L,q.f≤p.f)→own d (L++[p]) k=if p.f≤k then p.g else own d L k:=by
 induction L with
 | nil=>intro d _;simp [own]
 | cons q t ih =>
  intro d h;have hq:q.f≤p.f:=h q (by simp);have ht:=ih q.g (fun x hx=>h x (by simp [hx]));by_cases hk:q.f≤k
  ·simp only [List.cons_append,own,hk,if_true,ht]
  ·have:¬ p.f≤k:=by omega
   simp only [List.cons_append,own,hk,if_false,this]
theorem aby (L:List Pc) (k:Int):∀ d,(∀ q∈L,q.f≤k)→own d L k=Hy d L:=by
 induction L with
 | nil=>intro d _;rfl
 | cons q t ih =>
  intro d h;have hq:q.f≤k:=h q (by simp);simp only [own,hq,if_true,Hy];exact ih q.g (fun x hx=>h x (by simp [hx]))
theorem yS (L:List Pc) (k:Int):∀ f g d,AV f g L→k≤f→own d L k=d:=by
 cases L with
 | nil=>intros;rfl
 | cons q t =>
  intro f g d h hk;have:¬ q.f≤k:=by have:=h.1;omega
  simp [own,this]
theorem Ze (L:List Pc) (a k:Int) (hak:a≤k):∀ d,(∀ q∈L,¬ (a<q.f∧q.f≤k))→own d L k=own d L a:=by
 induction L with
 | nil=>intros;rfl
 | cons q t ih =>
  intro d h;have hq:=h q (by simp);have ht:=ih q.g (fun x hx=>h x (by simp [hx]));by_cases hk:q.f≤a
  ·have:q.f≤k:=by omega
   simp only [own,hk,this,if_true,ht]
  ·have:¬ q.f≤k:=by omega
   simp only [own,hk,this,if_false]
theorem LG (L:List Pc):∀ f g,AV f g L→∀ q∈L,f<q.f∧q.f<18446744073709551616∧q.f≤FH f L∧0≤q.g∧q.g<4:=by
 induction L with
 | nil=>intro f g _ q hq;simp at hq
 | cons p t ih =>
  intro f g h q hq;obtain ⟨h1,h2,h3,h4,h5,h6⟩:=h;have hl:p.f≤FH p.f t:=by
   cases t with
   | nil=>exact Int.le_refl _
   | cons r t'=>have:=ih p.f p.g h6 r (by simp);simp only [FH] at *;omega
  rcases List.mem_cons.1 hq with rfl | hq
  ·exact ⟨h1,h2,hl,h4,h5⟩
  ·have:=ih p.f p.g h6 q hq
   exact ⟨by omega,this.2.1,this.2.2.1,this.2.2.2⟩
theorem WV (L:List Pc) (p:Pc) (hlt:p.f<18446744073709551616) (hg:0≤p.g∧p.g<4):∀ f g,AV f g L→FH f L<p.f→Hy g L≠p.g→AV f g (L++[p]):=by
 induction L with
 | nil=>intro f g _ h1 h2;exact ⟨h1,hlt,h2,hg.1,hg.2,trivial⟩
 | cons q t ih =>
  intro f g h h1 h2;obtain ⟨a1,a2,a3,a4,a5,a6⟩:=h;exact ⟨a1,a2,a3,a4,a5,ih q.f q.g a6 h1 h2⟩
theorem abz (L:List Pc) (k:Int):∀ f g d,AV f g L→0≤d∧d<4→0≤own d L k∧own d L k<4:=by
 induction L with
 | nil=>intro f g d _ h;exact h
 | cons q t ih =>
  intro f g d h hd;obtain ⟨a1,a2,a3,a4,a5,a6⟩:=h;by_cases hk:q.f≤k
  ·simp only [own,hk,if_true];exact ih q.f q.g q.g a6 ⟨a4,a5⟩
  ·simp only [own,hk,if_false];exact hd
theorem abA {m:List Pc} (h:Can m) (k:Int) (d:Int) (hd:0≤d∧d<4):0≤own d m k∧own d m k<4:=by
 cases m with
 | nil=>exact h.elim
 | cons p t =>
  obtain ⟨h0,h1,h2,h3⟩:=h;by_cases hk:p.f≤k
  ·simp only [own,hk,if_true];exact abz t k 0 p.g p.g h3 ⟨h1,h2⟩
  ·simp only [own,hk,if_false];exact hd
theorem UY {m:List Pc} (h:Can m) (k:Int) (hk:0≤k) (d d':Int):own d m k=own d' m k:=by
 cases m with
 | nil=>exact h.elim
 | cons p t =>
  have:p.f≤k:=by have:=h.1;omega
  simp only [own,this,if_true]
theorem Ky {m:List Pc} (h:Can m):∀ q∈m,0≤q.f∧q.f<18446744073709551616∧0≤q.g∧q.g<4:=by
 cases m with
 | nil=>exact h.elim
 | cons p t =>
  obtain ⟨h0,h1,h2,h3⟩:=h;intro q hq;rcases List.mem_cons.1 hq with rfl | hq
  ·exact ⟨by omega,by omega,h1,h2⟩
  ·have:=LG t 0 p.g h3 q hq
   exact ⟨by omega,this.2.1,this.2.2.2⟩
theorem WW:∀ (L L':List Pc) (f g:Int),0≤f→AV f g L→AV f g L'→(∀ k,f≤k→k<18446744073709551616→own g L k=own g L' k)→L=L':=by
 intro L;induction L with
 | nil =>
  intro L' f g hf h h' he;cases L' with
  | nil=>rfl
  | cons q t =>
   obtain ⟨a1,a2,a3,a4,a5,a6⟩:=h';have:=he q.f (by omega) a2;simp only [own,Int.le_refl,if_true] at this;rw [yS t q.f q.f q.g q.g a6 (Int.le_refl _)] at this;exact (a3 this).elim
 | cons p s ih =>
  intro L' f g hf h h' he;obtain ⟨b1,b2,b3,b4,b5,b6⟩:=h;cases L' with
  | nil =>
   have:=he p.f (by omega) b2;simp only [own,Int.le_refl,if_true] at this;rw [yS s p.f p.f p.g p.g b6 (Int.le_refl _)] at this;exact (b3 this.symm).elim
  | cons q t =>
   obtain ⟨a1,a2,a3,a4,a5,a6⟩:=h';have hp:=he p.f (by omega) b2;have hq:=he q.f (by omega) a2;simp only [own,Int.le_refl,if_true] at hp hq;rw [yS s p.f p.f p.g p.g b6 (Int.le_refl _)] at hp;rw [yS t q.f q.f q.g q.g a6 (Int.le_refl _)] at hq;have hfe:p.f=q.f:=by
    rcases Int.lt_trichotomy p.f q.f with hlt | heq | hgt
    ·have:¬ q.f≤p.f:=by omega
     simp only [this,if_false] at hp;exact (b3 hp.symm).elim
    ·exact heq
    ·have:¬ p.f≤q.f:=by omega
     simp only [this,if_false] at hq;exact (a3 hq).elim
   have hge:p.g=q.g:=by
    simp only [hfe,Int.le_refl,if_true] at hp;rw [yS t q.f q.f q.g q.g a6 (Int.le_refl _)] at hp;exact hp
   have hpq:p=q:=by cases p;cases q;simp only at hfe hge;rw [hfe,hge]
   subst hpq;have hst:=ih t p.f p.g (by omega) b6 a6 (fun k hk hk2=>by
    have:=he k (by omega) hk2;simpa only [own,hk,if_true] using this)
   rw [hst]
theorem Zf {L L':List Pc} (h:Can L) (h':Can L') (he:∀ k,0≤k→k<18446744073709551616→own 0 L k=own 0 L' k):L=L':=by
 cases L with
 | nil=>exact h.elim
 | cons p s =>
  cases L' with
  | nil=>exact h'.elim
  | cons q t =>
   obtain ⟨a1,a2,a3,a4⟩:=h;obtain ⟨b1,b2,b3,b4⟩:=h';have h0:=he 0 (Int.le_refl _) (by decide);simp only [own,a1,b1,Int.le_refl,if_true] at h0;rw [yS s 0 0 p.g p.g a4 (Int.le_refl _),yS t 0 0 q.g q.g b4 (Int.le_refl _)] at h0;have hpq:p=q:=by cases p;cases q;simp only at a1 b1 h0;rw [a1,b1,h0]
   subst hpq;rw [WW s t 0 p.g (Int.le_refl _) a4 b4 (fun k hk hk2=>by
    have:=he k hk hk2;have hp:p.f≤k:=by omega
    simpa only [own,hp,if_true] using this)]
structure Inv (L:List Pc) (b:Int) (F:Int→Int):Prop where
 can:Can L
 le:∀ p∈L,p.f≤b
 eq:∀ k,0≤k→own 0 L k=if k≤b then F k else F b
theorem Hz {L:List Pc} (h:Can L):∃ y,L.getLast? = some y∧Hy 0 L=y.g∧FH 0 L=y.f:=by
 cases L with
 | nil=>exact h.elim
 | cons p t =>
  clear h;induction t generalizing p with
  | nil=>exact ⟨p,rfl,rfl,rfl⟩
  | cons q t ih =>
   obtain ⟨y,h1,h2,h3⟩:=ih q;exact ⟨y,by rw [List.getLast?_cons_cons];exact h1,h2,h3⟩
theorem Zg {L:List Pc} {p:Pc} (h:Can L) (hlt:p.f<18446744073709551616) (hg:0≤p.g∧p.g<4) (hf:∀ q∈L,q.f<p.f) (hn:Hy 0 L≠p.g):Can (L++[p]):=by
 obtain ⟨y,hy,hyg,hyf⟩:=Hz h;have hyl:FH 0 L<p.f:=by rw [hyf];exact hf y (List.mem_of_getLast? hy)
 cases L with
 | nil=>exact h.elim
 | cons q t =>
  obtain ⟨a1,a2,a3,a4⟩:=h;refine ⟨a1,a2,a3,WV t p hlt hg 0 q.g a4 ?_ hn⟩;simpa only [FH,a1] using hyl
theorem Inv.b0 {L:List Pc} {b:Int} {F:Int→Int} (h:Inv L b F):0≤b:=by
 obtain ⟨y,hy,_,_⟩:=Hz h.can;have h1:=h.le y (List.mem_of_getLast? hy);have h2:=(Ky h.can y (List.mem_of_getLast? hy)).1;omega
theorem Inv.last {L:List Pc} {b:Int} {F:Int→Int} (h:Inv L b F):∃ y,L.getLast? = some y∧y.g=F b:=by
 obtain ⟨y,hy,hyg,_⟩:=Hz h.can;refine ⟨y,hy,?_⟩;have h1:=h.eq b h.b0;rw [if_pos (Int.le_refl _),aby L b 0 h.le,hyg] at h1;exact h1
theorem Inv.step {L:List Pc} {b b':Int} {F:Int→Int} (h:Inv L b F) (hb:b<b') (hlt:b'<18446744073709551616) (hc:∀ k,b≤k→k<b'→F k=F b) (hg:0≤F b'∧F b'<4):Inv (join L ⟨b',F b'⟩) b' F:=by
 have hb0:=h.b0;obtain ⟨y,hy,hyg⟩:=h.last;unfold join;rw [hy];by_cases he:y.g=F b'
 ·simp only [he,if_true]
  refine ⟨h.can,fun p hp=>by have:=h.le p hp;omega,fun k hk=>?_⟩;rw [h.eq k hk];by_cases h1:k≤b
  ·have:k≤b':=by omega
   simp only [h1,this,if_true]
  ·by_cases h2:k≤b'
   ·simp only [h1,h2,if_false,if_true]
    by_cases h3:k=b'
    ·subst h3;rw [← hyg,he]
    ·exact (hc k (by omega) (by omega)).symm
   ·simp only [h1,h2,if_false];rw [← hyg,he]
 ·simp only [he,if_false]
  have hl:Hy 0 L=y.g:=by obtain ⟨z,hz,hzg,_⟩:=Hz h.can;rw [hy] at hz;cases hz;exact hzg
  refine ⟨Zg h.can hlt hg (fun q hq=>by have:=h.le q hq;show q.f<b';omega) (by rw [hl];exact he),?_,fun k hk=>?_⟩
  ·intro p hp
   rcases List.mem_append.1 hp with hp | hp
   ·have:=h.le p hp;omega
   ·simp at hp;subst hp;exact Int.le_refl _
  ·rw [Zd L ⟨b',F b'⟩ k 0 (fun q hq=>by have:=h.le q hq;show q.f≤b';omega),h.eq k hk]
   by_cases h1:b'≤k
   ·simp only [h1,if_true]
    by_cases h2:k≤b'
    ·have:k=b':=by omega
     subst this;simp
    ·simp only [h2,if_false]
   ·have h2:k≤b':=by omega
    simp only [h1,h2,if_false,if_true];by_cases h3:k≤b
    ·simp only [h3,if_true]
    ·simp only [h3,if_false];exact (hc k (by omega) (by omega)).symm
theorem Inv.end {L:List Pc} {b B:Int} {F:Int→Int} (h:Inv L b F) (hc:∀ k,b≤k→k≤B→F k=F b):∀ k,0≤k→k≤B→own 0 L k=F k:=by
 intro k hk hB;rw [h.eq k hk];by_cases h1:k≤b
 ·simp only [h1,if_true]
 ·simp only [h1,if_false];exact (hc k (by omega) hB).symm
theorem inv_one {F:Int→Int} (hg:0≤F 0∧F 0<4):Inv (join [] ⟨0,F 0⟩) 0 F:=by
 refine ⟨⟨rfl,hg.1,hg.2,trivial⟩,?_,fun k hk=>?_⟩
 ·intro p hp;simp [join] at hp;subst hp;exact Int.le_refl _
 ·simp only [join,List.getLast?_nil,List.nil_append,own,hk,if_true]
  by_cases h1:k≤0
  ·have:k=0:=by omega
   subst this;simp
  ·simp only [h1,if_false]
def uG (m:List Pc) (lo hi g:Int) (k:Int):Int:=if lo≤k∧k≤hi then g else own 0 m k
theorem UZ {m:List Pc} (h:Can m) {lo hi g:Int} (hg:0≤g∧g<4) (k:Int):0≤uG m lo hi g k∧uG m lo hi g k<4:=by
 unfold uG;by_cases hk:lo≤k∧k≤hi
 ·rw [if_pos hk];exact hg
 ·rw [if_neg hk];exact abA h k 0 (by decide)
theorem VR (lo:Int) (t:List Pc):∀ f d,AV f d t→AV f d (t.filter (fun p=>decide (p.f<lo)))∧∀ k,own d (t.filter (fun p=>decide (p.f<lo))) k=own d t (if k≤lo - 1 then k else lo - 1):=by
 induction t with
 | nil=>intro f d _;exact ⟨trivial,fun _=>rfl⟩
 | cons p t ih =>
  intro f d h;obtain ⟨a1,a2,a3,a4,a5,a6⟩:=h;obtain ⟨i1,i2⟩:=ih p.f p.g a6;by_cases hp:p.f<lo
  ·rw [List.filter_cons_of_pos (by simpa using hp)]
   refine ⟨⟨a1,a2,a3,a4,a5,i1⟩,fun k=>?_⟩;by_cases hk:k≤lo - 1
   ·simp only [own,hk,if_true];rw [i2 k,if_pos hk]
   ·have h1:p.f≤k:=by omega
    have h2:p.f≤lo - 1:=by omega
    simp only [own,hk,if_false,h1,h2,if_true];rw [i2 k,if_neg hk]
  ·have he:(p::t).filter (fun p=>decide (p.f<lo))=[]:=by
    rw [List.filter_eq_nil_iff];intro q hq;rcases List.mem_cons.1 hq with rfl | hq
    ·simpa using hp
    ·have:=(LG t p.f p.g a6 q hq).1;simp;omega
   rw [he];refine ⟨trivial,fun k=>?_⟩;have:¬ p.f≤(if k≤lo - 1 then k else lo - 1):=by split <;> omega
   simp only [own,this,if_false]
theorem WX {m:List Pc} (h:Can m) {lo hi g:Int} (hlo:0<lo):Inv (m.filter (fun p=>decide (p.f<lo))) (lo - 1) (uG m lo hi g):=by
 have hG:∀ k,k<lo→uG m lo hi g k=own 0 m k:=fun k hk=>by
  unfold uG;rw [if_neg (by omega)]
 cases m with
 | nil=>exact h.elim
 | cons p t =>
  obtain ⟨a1,a2,a3,a4⟩:=h;obtain ⟨i1,i2⟩:=VR lo t 0 p.g a4;have hp:p.f<lo:=by omega
  have he:(p::t).filter (fun p=>decide (p.f<lo))=p::t.filter (fun p=>decide (p.f<lo)):=List.filter_cons_of_pos (by simpa using hp);refine ⟨by rw [he];exact ⟨a1,a2,a3,i1⟩,fun q hq=>by have:=(List.mem_filter.1 hq).2;simp at this;omega,fun k hk=>?_⟩;have hpk:p.f≤k:=by omega
  have hpl:p.f≤lo - 1:=by omega
  rw [he];simp only [own,hpk,if_true];rw [i2 k];by_cases h1:k≤lo - 1
  ·simp only [h1,if_true];rw [hG k (by omega)];simp only [own,hpk,if_true]
  ·simp only [h1,if_false];rw [hG (lo - 1) (by omega)];simp only [own,hpl,if_true]
def pK (hi:Int) (L:List Pc) (p:Pc):List Pc:=if hi<p.f then join L p else L
theorem join_self {L:List Pc} {p y:Pc} (hy:L.getLast? = some y) (h:y.g=p.g):join L p=L:=by
 unfold join;rw [hy];simp only [h,if_true]
theorem VS {F:Int→Int} {hi:Int} (t:List Pc):∀ (f d b:Int) (L:List Pc),AV f d t→Inv L b F→(b=if f≤hi+1 then hi+1 else f)→(∀ k,f≤k→hi<k→F k=own d t k) →
 ∃ B,Inv (t.foldl (pK hi) L) B F∧∀ k,B≤k→F k=F B:=by
 induction t with
 | nil =>
  intro f d b L _ hI hb hF;refine ⟨b,hI,fun k hk=>?_⟩;have h1:f≤b∧hi<b:=by rw [hb];split <;> omega
  rw [hF k (by omega) (by omega),hF b h1.1 h1.2];rfl
 | cons p t ih =>
  intro f d b L h hI hb hF;obtain ⟨a1,a2,a3,a4,a5,a6⟩:=h;have hF':∀ k,p.f≤k→hi<k→F k=own p.g t k:=fun k hk hk2=>by
   rw [hF k (by omega) hk2];simp only [own,hk,if_true]
  have h1:f≤b∧hi<b:=by rw [hb];split <;> omega
  simp only [List.foldl_cons];by_cases hp:p.f≤hi
  ·have:pK hi L p=L:=by unfold pK;rw [if_neg (by omega)]
   rw [this];exact ih p.f p.g b L a6 hI (by rw [hb,if_pos (by omega),if_pos (by omega)]) hF'
  ·have hs:pK hi L p=join L p:=by unfold pK;rw [if_pos (by omega)]
   rw [hs];by_cases hpb:p.f=b
   ·have hb1:b=hi+1:=by
     rw [hb];split
     ·rfl
     ·rename_i hx;rw [if_neg hx] at hb;omega
    obtain ⟨y,hy,hyg⟩:=hI.last;have:y.g=p.g:=by
     rw [hyg,hF' b (by omega) (by omega)];exact yS t b p.f p.g p.g a6 (by omega)
    rw [join_self hy this];exact ih p.f p.g b L a6 hI (by rw [if_pos (by omega)];exact hb1) hF'
   ·have hbp:b<p.f:=by rw [hb] at hpb ⊢;split at hpb <;> split <;> omega
    have hFp:F p.f=p.g:=by rw [hF' p.f (Int.le_refl _) (by omega)];exact yS t p.f p.f p.g p.g a6 (Int.le_refl _)
    have hJ:=hI.step hbp a2 (fun k hk hk2=>by
     rw [hF k (by omega) (by omega),hF b h1.1 h1.2];have n1:¬ p.f≤k:=by omega
     have n2:¬ p.f≤b:=by omega
     simp only [own,n1,n2,if_false]) (by rw [hFp];exact ⟨a4,a5⟩)
    rw [hFp] at hJ;exact ih p.f p.g p.f _ a6 hJ (by rw [if_neg (by omega)]) hF'
def Ol (m:List Pc) (hi:Int) (L:List Pc):List Pc:=if hi=18446744073709551615 then L else m.foldl (pK hi) (join L ⟨hi+1,own 0 m (hi+1)⟩)
def dG (m:List Pc) (lo hi g:Int):List Pc:=Ol m hi (join (m.filter (fun p=>decide (p.f<lo))) ⟨lo,g⟩)
theorem Zh {m:List Pc} (h:Can m) {lo hi g:Int} (h0:0≤lo) (h1:lo≤hi) (h2:hi<18446744073709551616) (hg:0≤g∧g<4):Inv (join (m.filter (fun p=>decide (p.f<lo))) ⟨lo,g⟩) lo (uG m lo hi g):=by
 have hF:uG m lo hi g lo=g:=by unfold uG;rw [if_pos (by omega)]
 rcases Int.lt_or_eq_of_le h0 with hlt | heq
 ·have:=(WX h (hi:=hi) (g:=g) hlt).step (b':=lo) (by omega) (by omega) (fun k hk hk2=>by rw [show k=lo - 1 by omega]) (by rw [hF];exact hg)
  rw [hF] at this;exact this
 ·subst heq
  have hn:m.filter (fun p=>decide (p.f<0))=[]:=by
   rw [List.filter_eq_nil_iff];intro q hq;have:=(Ky h q hq).1;simp;omega
  have:=inv_one (F:=uG m 0 hi g) (by rw [hF];exact hg);rw [hF] at this;rw [hn];exact this
theorem Jl {m:List Pc} (h:Can m) {lo hi g:Int} (h0:0≤lo) (h1:lo≤hi) (h2:hi<18446744073709551616) (hg:0≤g∧g<4) :
 Can (dG m lo hi g)∧∀ k,0≤k→k<18446744073709551616→own 0 (dG m lo hi g) k=uG m lo hi g k:=by
 have hI:=Zh h h0 h1 h2 hg;have hFl:uG m lo hi g lo=g:=by unfold uG;rw [if_pos (by omega)]
 unfold dG Ol;by_cases hm:hi=18446744073709551615
 ·rw [if_pos hm]
  refine ⟨hI.can,fun k hk hk2=>hI.end (B:=18446744073709551615) (fun k hk hk2=>?_) k hk (by omega)⟩;rw [hFl];unfold uG;rw [if_pos (by omega)]
 ·rw [if_neg hm]
  have hF1:uG m lo hi g (hi+1)=own 0 m (hi+1):=by unfold uG;rw [if_neg (by omega)]
  have hJ:=hI.step (b':=hi+1) (by omega) (by omega) (fun k hk hk2=>by rw [hFl];unfold uG;rw [if_pos (by omega)]) (UZ h hg _);rw [hF1] at hJ;cases m with
  | nil=>exact h.elim
  | cons p t =>
   obtain ⟨a1,a2,a3,a4⟩:=h;have hp:pK hi (join (join ((p::t).filter (fun p=>decide (p.f<lo))) ⟨lo,g⟩) ⟨hi+1,own 0 (p::t) (hi+1)⟩) p=(join (join ((p::t).filter (fun p=>decide (p.f<lo))) ⟨lo,g⟩) ⟨hi+1,own 0 (p::t) (hi+1)⟩):=by
    unfold pK;rw [if_neg (by omega)]
   rw [List.foldl_cons,hp];obtain ⟨B,hB,hc⟩:=VS (hi:=hi) t 0 p.g (hi+1) _ a4 hJ (by rw [if_pos (by omega)]) (fun k hk hk2=>by
    unfold uG;rw [if_neg (by omega)];have:p.f≤k:=by omega
    simp only [own,this,if_true])
   exact ⟨hB.can,fun k hk _=>hB.end (B:=k) (fun j hj _=>hc j hj) k hk (Int.le_refl _)⟩
theorem Ah (L:List Pc) (p:Pc):(join L p).length≤L.length+1:=by
 unfold join;split
 ·simp
 ·split <;> simp
theorem U0 (hi:Int) (t:List Pc):∀ L,(t.foldl (pK hi) L).length≤L.length+t.length:=by
 induction t with
 | nil=>intro L;simp
 | cons p t ih =>
  intro L;have h1:=ih (pK hi L p);have h2:(pK hi L p).length≤L.length+1:=by
   unfold pK;split
   ·exact Ah L p
   ·omega
  simp only [List.foldl_cons,List.length_cons];omega
def zt (m:List Pc) (i:Nat):Bool:=match m[i]? with
 | none=>true
 | some x=>decide (x.g<4) && (i == 0 || match m[i - 1]? with
  | none=>true
  | some y=>decide (y.f<x.f) && !(y.g == x.g))
def nM (m:List Pc):Bool:=decide (0<m.length) && decide (m.length≤1000) && (match m[0]? with | none=>false | some x=>x.f == 0) && (List.range m.length).all (zt m)
def Pc.wf (p:Pc):Prop:=0≤p.f∧p.f<18446744073709551616∧0≤p.g∧p.g<256
def Nx (S:List Int) (at' next:Int):Prop:=(next=at'∧∀ x∈S,x≤at')∨(at'<next∧next∈S∧∀ x∈S,at'<x→next≤x)
theorem acL (at':Int):Nx [] at' at':=.inl ⟨rfl,by simp⟩
theorem Kz {S:List Int} {at' next y:Int} (h:Nx S at' next) (h1:at'<y) (h2:next=at'∨y<next):Nx (S++[y]) at' y:=by
 refine .inr ⟨h1,by simp,fun x hx hlt=>?_⟩;rcases List.mem_append.1 hx with hx | hx
 ·rcases h with ⟨_,h⟩ | ⟨_,_,h⟩
  ·have:=h x hx;omega
  ·have:=h x hx hlt;rcases h2 with h2 | h2 <;> omega
 ·simp at hx;omega
theorem H8 {S:List Int} {at' next y:Int} (h:Nx S at' next) (h1:¬ (at'<y∧(next=at'∨y<next))):Nx (S++[y]) at' next:=by
 rcases h with ⟨h,h2⟩ | ⟨h,h2,h3⟩
 ·refine .inl ⟨h,fun x hx=>?_⟩
  rcases List.mem_append.1 hx with hx | hx
  ·exact h2 x hx
  ·simp at hx;subst hx;omega
 ·refine .inr ⟨h,List.mem_append_left _ h2,fun x hx hlt=>?_⟩
  rcases List.mem_append.1 hx with hx | hx
  ·exact h3 x hx hlt
  ·simp at hx;subst hx;omega
theorem Nx.ge {S:List Int} {at' next:Int} (h:Nx S at' next):at'≤next:=by
 rcases h with ⟨h,_⟩ | ⟨h,_⟩ <;> omega
def pM (m:List Pc) (lo hi:Int):List Int:=m.map Pc.f++[lo]++(if hi=18446744073709551615 then [] else [hi+1])
theorem R8 {m:List Pc} {lo hi g a k:Int} (hak:a≤k) (hk:k<18446744073709551616) (h:∀ x∈pM m lo hi,a<x→k<x):uG m lo hi g k=uG m lo hi g a:=by
 have hm:∀ q∈m,¬ (a<q.f∧q.f≤k):=fun q hq hc=>by
  have:=h q.f (by simp only [pM,List.mem_append,List.mem_map];exact .inl (.inl ⟨q,hq,rfl⟩)) hc.1;omega
 have hl:a<lo→k<lo:=h lo (by simp [pM]);have hh:a≤hi→k≤hi:=fun hx=>by
  by_cases hm:hi=18446744073709551615
  ·omega
  ·have:=h (hi+1) (by simp [pM,hm]) (by omega);omega
 unfold uG;rw [Ze m a k hak 0 hm];by_cases h1:lo≤a∧a≤hi
 ·rw [if_pos h1,if_pos (by omega)]
 ·rw [if_neg h1,if_neg (by omega)]
def Came (F:Int→Int) (out:List Pc) (at':Int):Prop:=(out=[]∧at'=0)∨∃ b,Inv out b F∧b<at'∧∀ k,b≤k→k<at'→F k=F b
theorem WY {F:Int→Int} {out:List Pc} {at':Int} (h:Came F out at') (hlt:at'<18446744073709551616) (hg:0≤F at'∧F at'<4):Inv (join out ⟨at',F at'⟩) at' F:=by
 rcases h with ⟨rfl,rfl⟩ | ⟨b,h1,h2,h3⟩
 ·exact inv_one hg
 ·exact h1.step h2 hlt h3 hg
theorem WZ {m:List Pc} {lo hi g:Int} {out:List Pc} {at' next:Int} (h:Inv out at' (uG m lo hi g)) (hn:Nx (pM m lo hi) at' next) (hne:next≠at') (hlt:next<18446744073709551616):Came (uG m lo hi g) out next:=by
 refine .inr ⟨at',h,by have:=hn.ge;omega,fun k hk hk2=>?_⟩;refine R8 hk (by omega) (fun x hx hlt=>?_);rcases hn with ⟨h1,_⟩ | ⟨_,_,h3⟩
 ·exact (hne h1).elim
 ·have:=h3 x hx hlt;omega
theorem Zi {m:List Pc} {lo hi g:Int} (hc:Can m) (h0:0≤lo) (h1:lo≤hi) (h2:hi<18446744073709551616) (hg:0≤g∧g<4) {out:List Pc} {at':Int} (h:Inv out at' (uG m lo hi g)) (hn:Nx (pM m lo hi) at' at'):out=dG m lo hi g:=by
 obtain ⟨c1,c2⟩:=Jl hc h0 h1 h2 hg;refine Zf h.can c1 (fun k hk hk2=>?_);rw [c2 k hk hk2];refine h.end (B:=18446744073709551615) (fun j hj hj2=>R8 hj (by omega) (fun x hx hlt=>?_)) k hk (by omega);rcases hn with ⟨_,h1⟩ | ⟨h1,_⟩
 ·have:=h1 x hx;omega
 ·omega
theorem VT {S:List Int} {a a':Int} (h:a∈S) (hlt:a<a'):(S.countP fun x=>decide (x<a))+1≤S.countP fun x=>decide (x<a'):=by
 have hmono:∀ S:List Int,(S.countP fun x=>decide (x<a))≤S.countP fun x=>decide (x<a'):=fun S=>List.countP_mono_left (fun x _ hx=>by simp at hx ⊢;omega)
 induction S with
 | nil=>simp at h
 | cons y t ih =>
  rw [List.countP_cons,List.countP_cons];rcases List.mem_cons.1 h with rfl | h
  ·have:=hmono t
   have h1:¬ a<a:=Int.lt_irrefl _;simp only [decide_eq_true_eq,h1,hlt,if_true,if_false];omega
  ·have:=ih h
   by_cases hy:y<a
   ·have:y<a':=by omega
    simp only [decide_eq_true_eq,hy,this,if_true];omega
   ·simp only [decide_eq_true_eq,hy,if_false];split <;> omega
abbrev nT (w:World) (a:Option Addr) (n c:Nat) (m:List Pc):Prop:=bQ w.heap.size w ⟨a,n,c⟩ 2 (m.map Pc.cells)
theorem bQ.C9 {B:Nat} {w:World} {s:Sl} {m:List Pc} (h:bQ B w s 2 (m.map Pc.cells)) {i:Nat} {x:Pc} (hx:m[i]? = some x) :
 ∃ b off,s.a=some ⟨b,off,none⟩∧b<B∧w.cell? ⟨b,off+i*2,none⟩=some (.int .u64 x.f)∧w.cell? ⟨b,off+i*2+1,none⟩=some (.int .u8 x.g):=by
 have hi:=(mV hx);obtain ⟨b,off,ha,hlt,hc⟩:=h.at' (by rw [h.len];simp;omega);have:=hc i (Pc.cells x) (by simp [hx]);exact ⟨b,off,ha,hlt,this 0 _ rfl,this 1 _ rfl⟩
theorem MX:(Tryz.prog.info? 107).map (·.size)=some 2:=by kernel_rfl
theorem KA:(Tryz.prog.info? 107).map (fun i=>(i.zero,i.size,i.bytes))=some (some (.agg #[.int .u64 0,.int .u8 0]),2,16):=by kernel_rfl
theorem abB (m:List Pc):∀ y∈m.map Pc.cells,y.length=2:=by
 intro y hy;obtain ⟨r,_,rfl⟩:=List.mem_map.1 hy;rfl
def nP (base:Nat) (w:World) (v:Value) (l:List Pc):Prop:=w.ownsRow base 107 2 v l.length (l.map Pc.cells).flatten
theorem nP.Ia {base:Nat} {w:World} {v:Value} {l:List Pc} (h:nP base w v l):∃ a n c,v=.slice a n c∧nT w a n c l∧(a=none→c=0):=by
 unfold nP at h;exact qj (by rw [List.length_map];exact h) (abB l)
theorem nP.ne {base:Nat} {w:World} {v:Value} {l:List Pc} (h:nP base w v l):some w.heap.size≠v.ownBlock:=by
 intro e;have:=(World.ownsRow.lt h _ e.symm).2;omega
theorem fC.DF {base:Nat} {w w':World} {v v':Value} {l:List Pc} (h:fC w v w' v') (hown:nP base w v l) (hb:base≤w.heap.size):Below base w w' :=
 (Below.refl base w).grown h.grown hb (fun k hk=>(World.ownsRow.lt hown k hk).1)
theorem FI {base B:Nat} {w w':World} {v:Value} {l:List Pc} (h:nP base w v l) (hO:Only B w w') (hne:some B≠v.ownBlock):nP base w' v l :=
 World.ownsRow.kept h ⟨hO.os,hO.tape,hO.output,Nat.le_of_eq hO.size.symm,fun k _ hk=>hO.block k (fun e=>hk (by rw [e]))⟩ (.inr hne.symm)
theorem qF {base:Nat} {w:World} {v:Value} {l:List Pc} (h:nP base w v l) (o:Obj):nP base (w.alloc o) v l:=World.ownsRow.alloc h o
theorem Ib (w:World) (base:Nat):nP base w (.slice none 0 0) []:=World.ownsRow_nil w base _ _
theorem Aq {base:Nat} {w:World} {v:Value} {l l':List Pc} (h:nP base w v l) (e:l=l'):nP base w v l':=e ▸ h
theorem FJ {base:Nat} {w:World} {v:Value} {l:List Pc} {f g:Int} (h:w.ownsRow base 107 2 v (l.length+1) ((l.map Pc.cells).flatten++[.int .u64 f,.int .u8 g])):nP base w v (l++[⟨f,g⟩]):=by
 unfold nP;rw [List.length_append,List.map_append,List.flatten_append];exact h
theorem Ic {base:Nat} {w w':World} {v:Value} {l:List Pc} (h:nP base w v l) (hb:Below w.heap.size w w'):nP base w' v l :=
 World.ownsRow.kept h (row:=none) ⟨hb.os,hb.tape,hb.output,hb.size,fun k hk _=>hb.block k hk⟩ (by cases hv:v.ownBlock <;> simp)
theorem abC {w:World} {f g:Int} (b:Nat) (hf:w.cell? ⟨b,0,none⟩=some (.int .u64 f)) (hg:w.cell? ⟨b,1,none⟩=some (.int .u8 g)):∀ (j:Nat) (u:Value),[Value.int .u64 f,.int .u8 g][j]? = some u→w.cell? ((⟨b,0,none⟩:Addr).add j)=some u:=by
 intro j u hj;match j,hj with
 | 0,hj=>simp at hj;subst hj;simpa [Addr.add] using hf
 | 1,hj=>simp at hj;subst hj;simpa [Addr.add] using hg
theorem MZ {W:World} {b:Nat} {f g:Int} {t:TypeId} (hb:b=W.heap.size):∀ (j:Nat) (u:Value),[Value.int .u64 f,.int .u8 g][j]? = some u→(W.alloc (.cells #[.int .u64 f,.int .u8 g] t)).cell? ((⟨b,0,none⟩:Addr).add j)=some u:=by
 subst hb;exact abC _ ((ah (heap_alloc_new W _) 0).trans rfl) ((ah (heap_alloc_new W _) 1).trans rfl)
theorem KD (f g:Int):∀ u∈[Value.int .u64 f,.int .u8 g],u.oneCell'=true:=by
 intro u hu;simp at hu;rcases hu with rfl | rfl <;> rfl
theorem M0 {m:List Pc} (h:m.length=0):nM m=false:=by simp [nM,h]
theorem M7 {m:List Pc} (h:1000<m.length):nM m=false:=by
 have:¬ m.length≤1000:=by omega
 simp [nM,this]
theorem M8 {m:List Pc} {x:Pc} (hx:m[0]? = some x) (h:x.f≠0):nM m=false:=by
 have:(x.f == 0)=false:=by simp [h]
 simp [nM,hx,this]
theorem Ar {m:List Pc} {k:Nat} (h:k<m.length) (hb:zt m k=false):nM m=false:=by
 unfold nM;rw [Od h hb,Bool.and_false]
theorem Na {m:List Pc} {x:Pc} (hx:m[0]? = some x) (h:x.f=0) (h1:m.length≤1000) (ha:(List.range m.length).all (zt m)=true):nM m=true:=by
 have:=(mV hx);unfold nM;rw [ha,hx];simp [h,h1,this]
theorem KU {m:List Pc} {k:Nat} {x:Pc} (hx:m[k]? = some x) (h:4≤x.g):zt m k=false:=by
 have:¬ x.g<4:=by omega
 unfold zt;rw [hx];simp [this]
theorem Di {m:List Pc} {k:Nat} {x y:Pc} (hx:m[k]? = some x) (h0:0<k) (hy:m[k - 1]? = some y) (h:x.f≤y.f∨x.g=y.g):zt m k=false:=by
 have h0':(k == 0)=false:=by simp;omega
 unfold zt;rw [hx];simp only [hy,h0'];rcases h with h | h
 ·have:¬ y.f<x.f:=by omega
  simp [this]
 ·simp [h]
theorem Dj {m:List Pc} {k:Nat} {x:Pc} (hx:m[k]? = some x) (h:x.g<4) (hy:k=0∨∃ y,m[k - 1]? = some y∧y.f<x.f∧x.g≠y.g):zt m k=true:=by
 unfold zt;rw [hx];rcases hy with rfl | ⟨y,hy,hlt,hne⟩
 ·simp [h]
 ·have:¬ y.g=x.g:=fun e=>hne e.symm
  simp [h,hy,hlt,this]
theorem O5 (a:Option Addr) (n c:Nat) (m:List Pc) (w:World) (h:nT w a n c m) :
 Calls Tryz.prog 129 #[.slice a n c] w fun e w'=>e=.returned (.bool (nM m))∧Below w.heap.size w w':=by
 have hlen:n=m.length:=by simpa using h.len
 have hlm:n≤maxLen:=Nat.le_trans h.le h.max;unfold maxLen at hlm;have HL:Hid (n=m.length):=hlen;clear hlen;by_cases h0:n=0
 ·subst h0
  go_enter Tryz.func129,Tryz.ntmps129
  go_wp2
  go_ret
  exact ⟨dA (M0 HL.out.symm).symm,Below.refl _ _⟩
 by_cases h1:1000<n
 ·have hd0:decide ((n:Int)=0)=false:=by simp;omega
  have hd1:decide ((1000:Int)<(n:Int))=true:=by simp;omega
  go_enter Tryz.func129,Tryz.ntmps129
  go_wp2
  go_ret
  exact ⟨dA (M7 (by have:=HL.out;omega)).symm,Below.refl _ _⟩
 obtain ⟨p,hp⟩:∃ x,m[0]? = some x:=⟨m[0]'(by rw [← HL.out];omega),by simp⟩;obtain ⟨b,off,ha,j4,hp0,hp1⟩:=h.C9 hp;obtain rfl:a=some ⟨b,off,none⟩:=ha;have hd0:((n:Int) == 0)=false:=by simp;omega
 have hd1:decide ((1000:Int)<(n:Int))=false:=by simp;omega
 have hi0:(0:Int)<(n:Int):=by omega
 rw [Nat.zero_mul,Nat.add_zero] at hp0;have HP:Hid (m[0]? = some p):=hp;clear hp;by_cases O6:p.f=0
 ·have hbp:(p.f != 0)=false:=by simp [O6]
  go_enter Tryz.func129,Tryz.ntmps129
  go_wp2
  go_loopw [22] (fun i wr=>∃ k:Nat,k≤n∧i=.int .i64 k∧(List.range k).all (zt m)=true∧Below w.heap.size w wr) (fun i _=>n - (intOf i).toNat)
  case atStart=>exact ⟨0,Nat.zero_le _,rfl,by simp,Below.refl _ _⟩
  case round =>
   obtain ⟨k,hk,rfl,hall,hnx⟩:=hrel;have HA:Hid ((List.range k).all (zt m)=true):=hall;clear hall;by_cases hlt:k<n
   ·obtain ⟨x,hx⟩:∃ x,m[k]? = some x:=⟨m[k]'(by rw [← HL.out];exact hlt),by simp⟩
    have hS:=h.below hnx (Nat.le_refl _);obtain ⟨b',off',ha,LH,hc0,hc1⟩:=hS.C9 hx;simp only [Option.some.injEq,Addr.mk.injEq,and_true] at ha;obtain ⟨rfl,rfl⟩:=ha;have HX:Hid (m[k]? = some x):=hx;clear hx;obtain ⟨xf,xg⟩:=x;dsimp only at hc0 hc1;have hbz:b<wr.heap.size:=by have:=hnx.size;omega
    have hi1:(0:Int)≤(k:Int):=by omega
    have hi2:(k:Int)<(n:Int):=by omega
    by_cases hg:4≤xg
    ·go_wp2_with fail
     go_ret
     exact ⟨dA (Ar (k:=k) (by rw [← HL.out];exact hlt) (KU HX.out hg)).symm,hnx.trans (Below.mono (aj _ _) hnx.size)⟩
    ·have hgd:decide (4≤xg)=false:=by simp;omega
     by_cases hk0:0<k
     ·obtain ⟨y,hy⟩:∃ y,m[k - 1]? = some y:=⟨m[k - 1]'(by rw [← HL.out];omega),by simp⟩
      obtain ⟨b',off',ha',_,hd2,hd3⟩:=hS.C9 hy;simp only [Option.some.injEq,Addr.mk.injEq,and_true] at ha';obtain ⟨rfl,rfl⟩:=ha';have HY:Hid (m[k - 1]? = some y):=hy;clear hy;obtain ⟨yf,yg⟩:=y;dsimp only at hd2 hd3;have hkd:decide ((0:Int)<(k:Int))=true:=by simp;omega
      have hj0:(0:Int)≤(k:Int) - 1:=by omega
      have hj1:(k:Int) - 1<(n:Int):=by omega
      by_cases hle:xf≤yf
      ·have hld:decide (xf≤yf)=true:=by simp;omega
       go_wp2_with fail
       go_quiet (fail)
       go_wp2
       go_ret
       exact ⟨dA (Ar (k:=k) (by rw [← HL.out];exact hlt) (Di HX.out hk0 HY.out (.inl hle))).symm,below_drewN (hnx.trans (Below.mono (aj _ _) hnx.size)) _⟩
      ·have hld:decide (xf≤yf)=false:=by simp;omega
       by_cases hge:xg=yg
       ·have hbe:(xg == yg)=true:=by simp [hge]
        go_wp2_with fail
        go_quiet (fail)
        go_wp2
        go_ret
        exact ⟨dA (Ar (k:=k) (by rw [← HL.out];exact hlt) (Di HX.out hk0 HY.out (.inr hge))).symm,below_drewN (hnx.trans (Below.mono (aj _ _) hnx.size)) _⟩
       ·have hbe:(xg == yg)=false:=by simp [hge]
        go_wp2_with fail
        go_quiet (fail)
        go_wp2
        go_roundw
        case rel=>exact ⟨k+1,by omega,by go_num,sH HA.out (Dj HX.out (by show xg<4;omega) (.inr ⟨_,HY.out,by show yf<xf;omega,hge⟩)),below_drewN (hnx.trans (Below.mono (aj _ _) hnx.size)) _⟩
        case measure=>simp [intOf];omega
     ·have hkd:decide ((0:Int)<(k:Int))=false:=by simp;omega
      go_wp2_with fail
      go_quiet (fail)
      go_wp2
      go_roundw
      case rel=>exact ⟨k+1,by omega,by go_num,sH HA.out (Dj HX.out (by show xg<4;omega) (.inl (by omega))),below_drewN (hnx.trans (Below.mono (aj _ _) hnx.size)) _⟩
      case measure=>simp [intOf];omega
   ·go_wp2
    go_ret
    obtain rfl:k=n:=by omega
    exact ⟨dA (Na HP.out O6 (by rw [← HL.out];omega) (by have:=HA.out;rw [HL.out] at this;exact this)).symm,hnx⟩
 ·have hbp:(p.f != 0)=true:=by simp [O6]
  go_enter Tryz.func129,Tryz.ntmps129
  go_wp2
  go_ret
  exact ⟨dA (M8 HP.out O6).symm,Below.refl _ _⟩
theorem abD {L:List Pc} {p:Pc} (h:L.length=0):join L p=L++[p]:=by
 have:L=[]:=List.eq_nil_of_length_eq_zero h;subst this;rfl
theorem R9 {L:List Pc} {p y:Pc} (hy:L[L.length - 1]? = some y):join L p=if y.g=p.g then L else L++[p]:=by
 unfold join;rw [List.getLast?_eq_getElem?,hy]
theorem Jm {base:Nat} {w:World} {v:Value} {l:List Pc} (h:nP base w v l) (n:Nat):nP base (w.drewN n) v l:=Ic h (below_drewN (Below.refl _ _) n)
theorem LJ (base:Nat) (v:Value) (L:List Pc) (pf pg:Int) (w:World) (hown:nP base w v L) (hb:base≤w.heap.size) (hl:L.length<1000000) :
 Calls Tryz.prog 147 #[v,.agg #[.int .u64 pf,.int .u8 pg]] w fun e w'=>∃ v',e=.returned v'∧nP base w' v' (join L ⟨pf,pg⟩)∧fC w v w' v':=by
 obtain ⟨i0,hi,hz0,hz1,hz2⟩:=info_parts KA;obtain ⟨a,n,c,rfl,hin,hnil⟩:=hown.Ia;have hlen:n=L.length:=by simpa using hin.len
 have HL:Hid (n=L.length):=hlen;have hlm:n<1000000:=by omega
 clear hlen hnil;by_cases h0:n=0
 ·subst h0
  go_enter Tryz.func147,Tryz.ntmps147
  go_wp2
  go_quiet (fail)
  go_wp2_with (first | (at_builtin;go_must (refine aZ _ rfl _ _ 26 rfl base 107 i0 (.agg #[.int .u64 0,.int .u8 0]) 2 16 Lv hi hz0 hz1 hz2 rfl (by decide) _ L.length (L.map Pc.cells).flatten rfl (qF (Jm (qF hown _) _) _) _ 1 1 [.int .u64 pf,.int .u8 pg] rfl rfl ?_ ?_ ?_ ?_ ?_ ?_)))
  case refine_1=>exact MZ (by simp)
  case refine_2=>exact KD pf pg
  case refine_3=>unfold maxLen;have:=HL.out;omega
  case refine_4=>have:=HL.out;omega
  case refine_5=>simp;omega
  intro v' w1 hown' hgrow;go_wp2
  go_ret
  refine ⟨_,rfl,Aq (FJ hown') ?_,(fC.alloc _ _ _).trans ((fC.drewN _ _ _).trans ((fC.alloc _ _ _).trans hgrow))⟩;exact (abD HL.out.symm).symm
 ·obtain ⟨y,hy⟩:∃ y,L[L.length - 1]? = some y:=⟨L[L.length - 1]'(by rw [← HL.out];omega),by simp⟩
  obtain ⟨b,off,ha,j4,hc0,hc1⟩:=hin.C9 hy;obtain rfl:a=some ⟨b,off,none⟩:=ha;rw [← HL.out] at hc1;have hn0:0<n:=by omega
  have h0d:decide ((0:Int)<(n:Int))=true:=by simp;omega
  have HY:Hid (L[L.length - 1]? = some y):=hy;clear hy hc0;obtain ⟨yf,yg⟩:=y;dsimp only at hc1;have hj0:(0:Int)≤(n:Int) - 1:=by omega
  have hj1:(n:Int) - 1<(n:Int):=by omega
  by_cases hg:yg=pg
  ·have hgd:(yg == pg)=true:=by simp [hg]
   go_enter Tryz.func147,Tryz.ntmps147
   go_wp2
   go_quiet (fail)
   go_wp2
   go_ret
   refine ⟨_,rfl,?_,?_⟩
   ·rw [R9 HY.out,if_pos hg]
    exact Jm (qF hown _) _
   ·exact (fC.alloc _ _ _).trans (fC.drewN _ _ _)
  ·have hgd:(yg == pg)=false:=by simp [hg]
   go_enter Tryz.func147,Tryz.ntmps147
   go_wp2
   go_quiet (fail)
   go_wp2_with (first | (at_builtin;go_must (refine aZ _ rfl _ _ 26 rfl base 107 i0 (.agg #[.int .u64 0,.int .u8 0]) 2 16 Lv hi hz0 hz1 hz2 rfl (by decide) _ L.length (L.map Pc.cells).flatten rfl (qF (Jm (qF hown _) _) _) _ 1 1 [.int .u64 pf,.int .u8 pg] rfl rfl ?_ ?_ ?_ ?_ ?_ ?_)))
   case refine_1=>exact MZ (by simp)
   case refine_2=>exact KD pf pg
   case refine_3=>unfold maxLen;have:=HL.out;omega
   case refine_4=>have:=HL.out;omega
   case refine_5=>simp;omega
   intro v' w1 hown' hgrow;go_wp2
   go_ret
   refine ⟨_,rfl,Aq (FJ hown') ?_,(fC.alloc _ _ _).trans ((fC.drewN _ _ _).trans ((fC.alloc _ _ _).trans hgrow))⟩;rw [R9 HY.out,if_neg hg]
theorem Ie {m:List Pc} {k:Nat} {x:Pc} {g key:Int} (hx:m[k]? = some x):own g (m.drop k) key=if x.f≤key then own x.g (m.drop (k+1)) key else g:=by
 obtain ⟨hk,rfl⟩:=List.getElem?_eq_some_iff.1 hx;rw [List.drop_eq_getElem_cons hk];rfl
theorem Nb (a:Option Addr) (n c:Nat) (m:List Pc) (key:Int) (p:Pc) (hp:m[0]? = some p) (w:World) (h:nT w a n c m) :
 Calls Tryz.prog 130 #[.slice a n c,.int .u64 key] w fun e w'=>e=.returned (.int .u8 (own p.g m key))∧Below w.heap.size w w':=by
 have hlen:n=m.length:=by simpa using h.len
 have hlm:n≤maxLen:=Nat.le_trans h.le h.max;unfold maxLen at hlm;have h0:0<n:=by rw [hlen];exact (mV hp)
 have HL:Hid (n=m.length):=hlen;clear hlen;obtain ⟨b,off,ha,j4,hp0,hp1⟩:=h.C9 hp;obtain rfl:a=some ⟨b,off,none⟩:=ha;have hi0:(0:Int)<(n:Int):=by omega
 rw [Nat.zero_mul,Nat.add_zero] at hp1;clear hp hp0;obtain ⟨pf,pg⟩:=p;dsimp only at hp1;go_enter Tryz.func130,Tryz.ntmps130
 go_wp2
 go_loopw [5,14] (fun gr i wr=>∃ (k:Nat) (g:Int),k≤n∧i=.int .i64 k∧gr=.int .u8 g∧Hid (own pg m key=own g (m.drop k) key)∧Below w.heap.size w wr) (fun _ i _=>n - (intOf i).toNat)
 case atStart=>exact ⟨0,pg,Nat.zero_le _,rfl,rfl,(by show _=_;simp),Below.refl _ _⟩
 case round =>
  obtain ⟨k,g,hk,rfl,rfl,HG,hnx⟩:=hrel;by_cases hlt:k<n
  ·obtain ⟨x,hx⟩:∃ x,m[k]? = some x:=⟨m[k]'(by rw [← HL.out];exact hlt),by simp⟩
   have hS:=h.below hnx (Nat.le_refl _);obtain ⟨b',off',ha,LH,hc0,hc1⟩:=hS.C9 hx;simp only [Option.some.injEq,Addr.mk.injEq,and_true] at ha;obtain ⟨rfl,rfl⟩:=ha;have HX:Hid (m[k]? = some x):=hx;clear hx;obtain ⟨xf,xg⟩:=x;dsimp only at hc0 hc1;have hbz:b<wr.heap.size:=by have:=hnx.size;omega
   have hi1:(0:Int)≤(k:Int):=by omega
   have hi2:(k:Int)<(n:Int):=by omega
   by_cases hg:key<xf
   ·go_wp2_with fail
    go_ret
    refine ⟨?_,hnx.trans (Below.mono (aj _ _) hnx.size)⟩;show Ending.returned (.int .u8 g)=_;rw [HG.out,Ie HX.out,if_neg (by show ¬ xf≤key;omega)]
   ·go_wp2_with fail
    go_roundw
    case rel=>exact ⟨k+1,xg,by omega,by go_num,rfl,(by show _=_;rw [HG.out,Ie HX.out,if_pos (by show xf≤key;omega)]),hnx.trans (Below.mono (aj _ _) hnx.size)⟩
    case measure=>simp [intOf];omega
  ·go_wp2
   go_ret
   refine ⟨?_,hnx⟩;show Ending.returned (.int .u8 g)=_;obtain rfl:k=n:=by omega
   rw [HG.out,HL.out,List.drop_length];rfl
end
end Go.Proofs.YtignemioillaiaaGreat
