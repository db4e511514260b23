/- What is written (3): lists. -/
import Derived.Test.YtignemioillaiabGreatG23
namespace Go.Proofs.YtignemioillaiabGreat
set_option maxHeartbeats 8000000
set_option linter.unusedSectionVars false
set_option maxRecDepth 100000
section
open Go Go.Conc
theorem Put.kz {w w1:World} {v v1:Value} {n:Nat} {xs:List Value} {a:List Int} (h:Put w v n xs a v1 w1) (ho:w.ownsRow 0 5 1 v n xs):Kz w w1:=λ t ht b c hb=>h.get ho hb λ e=>by subst e;revert ht;decide
theorem oP {α:Type} {g:α->List Int} {L:Nat}:∀ {l:List α},(∀ x∈l,(g x).length<=L)->(l.map g).flatten.length<=l.length*L
 | [],_=>by simp
 | x::l,h=>by
  have h1:=h x List.mem_cons_self;have h2:=oP (l:=l) λ y hy=>h y (List.mem_cons_of_mem _ hy)
  simp only [List.map_cons,List.flatten_cons,List.length_append,List.length_cons,Nat.succ_mul];omega
theorem Ai {α β:Type} (g:α->List β) {l:List α} {k:Nat} {x:α} (h:l[k]? = some x):((l.take (k+1)).map g).flatten=((l.take k).map g).flatten++g x:=by
 rw [List.take_add_one,h];simp
section
variable {w:World} {v lv:Value} {n B L:Nat} {xs:List Value}
theorem KO {els:List (Row)} {g:Row->List Int} (hl:Fz w 139 2 lv els.length (els.map λ x=>x.cells).flatten) (hc:∀ x∈els,∀ (w':World) (v':Value) (n':Nat) (xs':List Value),Kz w w'->w'.ownsRow 0 5 1 v' n' xs'->n'<=B->af Tryz.prog 177 #[v',.agg (x.cells).toArray] w' (λ v'' w''=>Put w' v' n' xs' (g x) v'' w'')) (hg:∀ x∈els,(g x).length<=L) (yu:els.length<=255) (ho:w.ownsRow 0 5 1 v n xs) (hn:n+1+255*L<=B) (hB:B<=800000000):af Tryz.prog 176 #[v,lv,.func (.func 177) #[] #[]] w (λ v' w'=>Put w v n xs ([(els.length:Int)]++(els.map g).flatten) v' w'):=by
 obtain ⟨a,c,rfl,hcap,hlen,hv⟩:=hl;refine aj ah mixed Tryz.func176 rfl rfl ?_;refine .inl ⟨by omega,?_⟩;refine ⟨_,dA ho (by omega) _,λ v1 w1 P=>?_⟩;obtain ⟨a1,c1,rfl⟩:=ae P.row;refine ⟨λ m s wk=>∃ (k:Nat) (vk:Value),m=els.length - k/\k<=els.length/\s=[(0,vk),(2,.func (.func 177) #[] #[]),(14,.slice a els.length c),(15,.int .i64 els.length),(16,.int .i64 k)]/\Put w v n xs ([(els.length:Int)]++((els.take k).map g).flatten) vk wk,⟨_,_,⟨0,_,rfl,Nat.zero_le _,rfl,P.eq (by simp)⟩,rfl,rfl,rfl,rfl,rfl,trivial⟩,?_⟩;clear P;rintro m s wk ⟨k,vk,rfl,hk,rfl,P⟩;obtain ⟨ak,ck,rfl⟩:=ae P.row;refine au (λ d=>?_) (λ d=>?_)
 ·have d1:k<els.length:=by have:=of_decide_eq_true d;omega
  obtain ⟨x,hx⟩:∃ x,els[k]? = some x:=⟨els[k],by simp [d1]⟩;have hm:=List.mem_of_getElem? hx;rcases hv with ⟨_,h0⟩ | ⟨b,off,cs,rfl,hb,hcut⟩
  ·omega
  have hel:aQ cs.toList (off+k*2) 2=x.cells:=(Fz.elem hcut d1).trans (by rw [<- List.flatMap_def];exact jW (f:=λ x:Row=>x.cells) (λ _=>rfl) els k x hx);have hb':=P.kz ho 139 (by decide) b cs hb;refine ⟨⟨by omega,by omega⟩,_,_,hb',x.cells,by show aQ cs.toList (off+(k:Int).toNat*2) 2=_;rw [Int.toNat_natCast];exact hel,rfl,λ w2 b2 m2 g2 l2=>⟨_,_,_,m2,rfl,rfl,λ w3 m3 g3=>?_⟩⟩;have g23:=g2.new g3 l2;have hlk:=oP (l:=els.take k) (L:=L) λ y hy=>hg y (List.mem_of_mem_take hy)
  have hL:(els.take k).length*L<=255*L:=Nat.mul_le_mul_right _ (by rw [List.length_take];omega);refine ⟨_,_,m3,x.cells,rfl,rfl,_,hc x hm w3 _ _ _ ((P.kz ho).trans g23.kz) (jq P.row g23) (by rw [List.length_append,List.length_singleton];omega),λ v4 w4 p4=>?_⟩;obtain ⟨a4,c4,rfl⟩:=ae p4.row;exact ⟨⟨by omega,by omega⟩,_,_,⟨k+1,_,rfl,by omega,rfl,(P.trans (p4.pre g23)).eq (by rw [Ai g hx];simp)⟩,⟨rfl,rfl,rfl,rfl,rfl,trivial⟩,by omega⟩
 ·have d1:k=els.length:=by have:=of_decide_eq_false d;omega
  exact P.eq (by rw [d1,List.take_length])
theorem KP {els:List (az)} {g:az->List Int} (hl:Fz w 70 7 lv els.length (els.map λ x=>x.cells).flatten) (hc:∀ x∈els,∀ (w':World) (v':Value) (n':Nat) (xs':List Value),Kz w w'->w'.ownsRow 0 5 1 v' n' xs'->n'<=B->af Tryz.prog 121 #[v',.agg (x.cells).toArray] w' (λ v'' w''=>Put w' v' n' xs' (g x) v'' w'')) (hg:∀ x∈els,(g x).length<=L) (yu:els.length<=255) (ho:w.ownsRow 0 5 1 v n xs) (hn:n+1+255*L<=B) (hB:B<=800000000):af Tryz.prog 178 #[v,lv,.func (.func 121) #[] #[]] w (λ v' w'=>Put w v n xs ([(els.length:Int)]++(els.map g).flatten) v' w'):=by
 obtain ⟨a,c,rfl,hcap,hlen,hv⟩:=hl;refine aj ah mixed Tryz.func178 rfl rfl ?_;refine .inl ⟨by omega,?_⟩;refine ⟨_,dA ho (by omega) _,λ v1 w1 P=>?_⟩;obtain ⟨a1,c1,rfl⟩:=ae P.row;refine ⟨λ m s wk=>∃ (k:Nat) (vk:Value),m=els.length - k/\k<=els.length/\s=[(0,vk),(2,.func (.func 121) #[] #[]),(14,.slice a els.length c),(15,.int .i64 els.length),(16,.int .i64 k)]/\Put w v n xs ([(els.length:Int)]++((els.take k).map g).flatten) vk wk,⟨_,_,⟨0,_,rfl,Nat.zero_le _,rfl,P.eq (by simp)⟩,rfl,rfl,rfl,rfl,rfl,trivial⟩,?_⟩;clear P;rintro m s wk ⟨k,vk,rfl,hk,rfl,P⟩;obtain ⟨ak,ck,rfl⟩:=ae P.row;refine au (λ d=>?_) (λ d=>?_)
 ·have d1:k<els.length:=by have:=of_decide_eq_true d;omega
  obtain ⟨x,hx⟩:∃ x,els[k]? = some x:=⟨els[k],by simp [d1]⟩;have hm:=List.mem_of_getElem? hx;rcases hv with ⟨_,h0⟩ | ⟨b,off,cs,rfl,hb,hcut⟩
  ·omega
  have hel:aQ cs.toList (off+k*7) 7=x.cells:=(Fz.elem hcut d1).trans (by rw [<- List.flatMap_def];exact jW (f:=λ x:az=>x.cells) (λ _=>rfl) els k x hx);have hb':=P.kz ho 70 (by decide) b cs hb;refine ⟨⟨by omega,by omega⟩,_,_,hb',x.cells,by show aQ cs.toList (off+(k:Int).toNat*7) 7=_;rw [Int.toNat_natCast];exact hel,rfl,λ w2 b2 m2 g2 l2=>⟨_,_,_,m2,rfl,rfl,λ w3 m3 g3=>?_⟩⟩;have g23:=g2.new g3 l2;have hlk:=oP (l:=els.take k) (L:=L) λ y hy=>hg y (List.mem_of_mem_take hy)
  have hL:(els.take k).length*L<=255*L:=Nat.mul_le_mul_right _ (by rw [List.length_take];omega);refine ⟨_,_,m3,x.cells,rfl,rfl,_,hc x hm w3 _ _ _ ((P.kz ho).trans g23.kz) (jq P.row g23) (by rw [List.length_append,List.length_singleton];omega),λ v4 w4 p4=>?_⟩;obtain ⟨a4,c4,rfl⟩:=ae p4.row;exact ⟨⟨by omega,by omega⟩,_,_,⟨k+1,_,rfl,by omega,rfl,(P.trans (p4.pre g23)).eq (by rw [Ai g hx];simp)⟩,⟨rfl,rfl,rfl,rfl,rfl,trivial⟩,by omega⟩
 ·have d1:k=els.length:=by have:=of_decide_eq_false d;omega
  exact P.eq (by rw [d1,List.take_length])
theorem Jj {els:List (MV×Value×Value)} {g:MV×Value×Value->List Int} (hl:Fz w 178 20 lv els.length (els.map λ x=>jA x.1 x.2.1 x.2.2).flatten) (hc:∀ x∈els,∀ (w':World) (v':Value) (n':Nat) (xs':List Value),Kz w w'->w'.ownsRow 0 5 1 v' n' xs'->n'<=B->af Tryz.prog 124 #[v',.agg (jA x.1 x.2.1 x.2.2).toArray] w' (λ v'' w''=>Put w' v' n' xs' (g x) v'' w'')) (hs:∀ x∈els,∃ a n c a' n' c',x.2.1=.slice a n c/\x.2.2=.slice a' n' c') (hg:∀ x∈els,(g x).length<=L) (yu:els.length<=255) (ho:w.ownsRow 0 5 1 v n xs) (hn:n+1+255*L<=B) (hB:B<=800000000):af Tryz.prog 123 #[v,lv,.func (.func 124) #[] #[]] w (λ v' w'=>Put w v n xs ([(els.length:Int)]++(els.map g).flatten) v' w'):=by
 obtain ⟨a,c,rfl,hcap,hlen,hv⟩:=hl;refine aj ah mixed Tryz.func123 rfl rfl ?_;refine .inl ⟨by omega,?_⟩;refine ⟨_,dA ho (by omega) _,λ v1 w1 P=>?_⟩;obtain ⟨a1,c1,rfl⟩:=ae P.row;refine ⟨λ m s wk=>∃ (k:Nat) (vk:Value),m=els.length - k/\k<=els.length/\s=[(0,vk),(2,.func (.func 124) #[] #[]),(14,.slice a els.length c),(15,.int .i64 els.length),(16,.int .i64 k)]/\Put w v n xs ([(els.length:Int)]++((els.take k).map g).flatten) vk wk,⟨_,_,⟨0,_,rfl,Nat.zero_le _,rfl,P.eq (by simp)⟩,rfl,rfl,rfl,rfl,rfl,trivial⟩,?_⟩;clear P;rintro m s wk ⟨k,vk,rfl,hk,rfl,P⟩;obtain ⟨ak,ck,rfl⟩:=ae P.row;refine au (λ d=>?_) (λ d=>?_)
 ·have d1:k<els.length:=by have:=of_decide_eq_true d;omega
  obtain ⟨x,hx⟩:∃ x,els[k]? = some x:=⟨els[k],by simp [d1]⟩;have hm:=List.mem_of_getElem? hx;obtain ⟨x1,x2,x3⟩:=x;obtain ⟨_,_,_,_,_,_,e1,e2⟩:=hs _ hm;dsimp only at e1 e2;subst e1;subst e2;have hc0:=hc _ hm;rcases hv with ⟨_,h0⟩ | ⟨b,off,cs,rfl,hb,hcut⟩
  ·omega
  have hel:aQ cs.toList (off+k*20) 20=jA x1 (.slice _ _ _) (.slice _ _ _):=(Fz.elem hcut d1).trans (by rw [<- List.flatMap_def];exact jW (f:=λ x:MV×Value×Value=>jA x.1 x.2.1 x.2.2) (λ _=>rfl) els k _ hx);have hb':=P.kz ho 178 (by decide) b cs hb;refine ⟨⟨by omega,by omega⟩,_,_,hb',jA x1 (.slice _ _ _) (.slice _ _ _),by show aQ cs.toList (off+(k:Int).toNat*20) 20=_;rw [Int.toNat_natCast];exact hel,rfl,λ w2 b2 m2 g2 l2=>⟨_,_,_,m2,rfl,rfl,λ w3 m3 g3=>?_⟩⟩;have g23:=g2.new g3 l2;have hlk:=oP (l:=els.take k) (L:=L) λ y hy=>hg y (List.mem_of_mem_take hy)
  have hL:(els.take k).length*L<=255*L:=Nat.mul_le_mul_right _ (by rw [List.length_take];omega);refine ⟨_,_,m3,jA x1 (.slice _ _ _) (.slice _ _ _),rfl,rfl,_,hc0 w3 _ _ _ ((P.kz ho).trans g23.kz) (jq P.row g23) (by rw [List.length_append,List.length_singleton];omega),λ v4 w4 p4=>?_⟩;obtain ⟨a4,c4,rfl⟩:=ae p4.row;exact ⟨⟨by omega,by omega⟩,_,_,⟨k+1,_,rfl,by omega,rfl,(P.trans (p4.pre g23)).eq (by rw [Ai g hx];simp)⟩,⟨rfl,rfl,rfl,rfl,rfl,trivial⟩,by omega⟩
 ·have d1:k=els.length:=by have:=of_decide_eq_false d;omega
  exact P.eq (by rw [d1,List.take_length])
end
def Rg.sm (r:Rg):Prop:=r.rows.length<=255/\r.aY.length<=255
def Ce (r:Rg):List Int:=[r.src]++[r.dst]++b32 r.seq++b64 r.lo++b64 r.hi++([(r.rows.length:Int)]++(r.rows.map qW).flatten)++([(r.aY.length:Int)]++(r.aY.map mf).flatten)
def mg (c:MC):List Int:=[c.kind]++(if c.kind=1 then uR c.q else if c.kind=2 then Ce c.r else if c.kind=3 then [c.peer]++b32 c.seq else [])
def kv (v:MV):List Int:=b32 v.slot++eQ v.b.n v.b.id++mg v.c
theorem CX (x:Row):(qW x).length=16:=by simp [qW,b64,b32]
theorem Jk (p:az):(mf p).length<=23:=by
 unfold mf;split
 ·split <;> simp [Bp,b64,b32]
 ·split <;> simp [b64,b32]
theorem Jl (q:bN):(uR q).length<=23:=by
 unfold uR;split
 ·simp [b64,b32]
 ·split <;> simp [b64,b32]
theorem Wn {r:Rg} (h:r.sm):(Ce r).length<=10000:=by
 have h1:=oP (g:=qW) (L:=16) (l:=r.rows) λ x _=>Nat.le_of_eq (CX x)
 have h2:=oP (g:=mf) (L:=23) (l:=r.aY) λ x _=>Jk x
 obtain ⟨h3,h4⟩:=h;unfold Ce;generalize (r.rows.map qW).flatten=a at *;generalize (r.aY.map mf).flatten=b at *;simp [b64,b32];omega
theorem S9 {c:MC} (h:c.r.sm):(mg c).length<=10001:=by
 unfold mg;have:=Wn h;have:=Jl c.q;split
 ·simp;omega
 ·split
  ·simp;omega
  ·split <;> simp [b32]
theorem PZ {v:MV} (h:v.c.r.sm):(kv v).length<=10010:=by
 unfold kv;have:=S9 h;simp [b32,eQ];omega
section
variable {w:World} {v:Value} {n:Nat} {xs:List Value}
theorem Jm (ho:w.ownsRow 0 5 1 v n xs) (hn:n<=500000000) {r:Rg} {rv dv:Value} (hr:aM w r rv dv) (hs:r.sm):af Tryz.prog 127 #[v,.agg (eO r rv dv).toArray] w (λ v' w'=>Put w v n xs (Ce r) v' w'):=by
 obtain ⟨ra,rn,rc,da,dn,dc,rfl,rfl⟩:=hr.sl;refine aj ah mixed Tryz.func127 rfl rfl ?_;refine λ w1 b1 m1 g1 l1=>?_
 have P:=Put.pre g1 (Put.nil (jq ho g1));refine ⟨_,_,m1,_,rfl,_,dA P.row (by simp;omega) _,λ v2 w2 p2=>?_⟩;obtain ⟨P,m1⟩:=P.more p2 m1 (by decide);refine ⟨_,_,m1,_,rfl,_,dA P.row (by simp;omega) _,λ v2 w2 p2=>?_⟩;obtain ⟨P,m1⟩:=P.more p2 m1 (by decide);refine ⟨_,_,m1,_,rfl,_,iY P.row (by simp;omega) _,λ v2 w2 p2=>?_⟩;obtain ⟨P,m1⟩:=P.more p2 m1 (by decide);refine ⟨_,_,m1,_,rfl,_,kV P.row (by simp [b32];omega) _,λ v2 w2 p2=>?_⟩;obtain ⟨P,m1⟩:=P.more p2 m1 (by decide);refine ⟨_,_,m1,_,rfl,_,kV P.row (by simp [b32,b64];omega) _,λ v2 w2 p2=>?_⟩;obtain ⟨P,m1⟩:=P.more p2 m1 (by decide);have hr':=hr.kz (P.kz ho);refine ⟨_,_,m1,_,rfl,_,KO (g:=qW) (L:=16) (B:=600000000) hr'.1 (λ x _ w' v' n' xs' _ h1 h2=>PY h1 (by omega) x) (λ x _=>Nat.le_of_eq (CX x)) hs.1 P.row (by simp [b32,b64];omega) (by decide),λ v2 w2 p2=>?_⟩;obtain ⟨P,m1⟩:=P.more p2 m1 (by decide);have hr':=hr.kz (P.kz ho);have hl:=oP (g:=qW) (L:=16) (l:=r.rows) λ x _=>Nat.le_of_eq (CX x)
 have hl1:=hs.1;refine ⟨_,_,m1,_,rfl,_,KP (g:=mf) (L:=23) (B:=600000000) hr'.2 (λ x _ w' v' n' xs' _ h1 h2=>Gs h1 (by omega) x) (λ x _=>Jk x) hs.2 P.row (by generalize (r.rows.map qW).flatten=a at *;simp [b32,b64];omega) (by decide),λ v2 w2 p2=>?_⟩;exact (P.trans p2).eq rfl
theorem Aj (ho:w.ownsRow 0 5 1 v n xs) (hn:n<=400000000) {c:MC} {rv dv:Value} (hr:aM w c.r rv dv) (hs:c.r.sm):af Tryz.prog 126 #[v,.agg (dz c rv dv).toArray] w (λ v' w'=>Put w v n xs (mg c) v' w'):=by
 obtain ⟨ra,rn,rc,da,dn,dc,rfl,rfl⟩:=hr.sl;refine aj ah mixed Tryz.func126 rfl rfl ?_;refine λ w1 b1 m1 g1 l1=>?_
 have P:=Put.pre g1 (Put.nil (jq ho g1));refine ⟨_,_,m1,_,rfl,_,dA P.row (by simp;omega) _,λ v2 w2 p2=>?_⟩;obtain ⟨P,m1⟩:=P.more p2 m1 (by decide);refine ⟨_,_,m1,_,rfl,au (λ d=>?_) (λ d=>?_)⟩
 ·have d1:c.kind=1:=by simpa using d
  refine ⟨_,_,m1,c.q.cells,rfl,rfl,_,Gt P.row (by simp;omega) _,λ v2 w2 p2=>?_⟩;exact (P.trans p2).eq (by simp [mg,d1])
 ·have d1:¬ c.kind=1:=by simpa using d
  refine au (λ e=>?_) (λ e=>?_)
  ·have e1:c.kind=2:=by simpa using e
   refine ⟨_,_,m1,eO c.r _ _,rfl,rfl,_,Jm P.row (by simp;omega) (hr.kz (P.kz ho)) hs,λ v2 w2 p2=>?_⟩;exact (P.trans p2).eq (by simp [mg,e1])
  ·have e1:¬ c.kind=2:=by simpa using e
   refine au (λ f=>?_) (λ f=>?_)
   ·have f1:c.kind=3:=by simpa using f
    refine ⟨_,_,m1,_,rfl,_,dA P.row (by simp;omega) _,λ v2 w2 p2=>?_⟩;obtain ⟨P,m1⟩:=P.more p2 m1 (by decide);refine ⟨_,_,m1,_,rfl,_,iY P.row (by simp;omega) _,λ v2 w2 p2=>?_⟩;exact (P.trans p2).eq (by simp [mg,f1])
   ·have f1:¬ c.kind=3:=by simpa using f
    exact P.eq (by simp [mg,d1,e1,f1])
theorem NZ (ho:w.ownsRow 0 5 1 v n xs) (hn:n<=300000000) {x:MV} {rv dv:Value} (hr:aM w x.c.r rv dv) (hs:x.c.r.sm):af Tryz.prog 124 #[v,.agg (jA x rv dv).toArray] w (λ v' w'=>Put w v n xs (kv x) v' w'):=by
 obtain ⟨ra,rn,rc,da,dn,dc,rfl,rfl⟩:=hr.sl;refine aj ah mixed Tryz.func124 rfl rfl ?_;refine λ w1 b1 m1 g1 l1=>?_
 have P:=Put.pre g1 (Put.nil (jq ho g1));refine ⟨_,_,m1,_,rfl,_,iY P.row (by simp;omega) _,λ v2 w2 p2=>?_⟩;obtain ⟨P,m1⟩:=P.more p2 m1 (by decide);refine ⟨_,_,m1,[.int .u32 x.b.n,.int .u8 x.b.id],rfl,rfl,_,pJ P.row (by simp [b32];omega) _ _,λ v2 w2 p2=>?_⟩;obtain ⟨P,m1⟩:=P.more p2 m1 (by decide);refine ⟨_,_,m1,dz x.c _ _,rfl,rfl,_,Aj P.row (by simp [b32,eQ];omega) (hr.kz (P.kz ho)) hs,λ v2 w2 p2=>?_⟩;exact (P.trans p2).eq rfl
end
structure MM.sm (m:MM):Prop where
 c:m.c.r.sm
 r:m.r.sm
 vl:m.vs.length<=255
 vs:∀ v∈m.vs,v.c.r.sm
def qj (m:MM):List Int:=if m.kind=1 then uR m.q else if m.kind=2 then mf m.p else if m.kind=3 then eQ m.b.n m.b.id else if m.kind=5 then eQ m.b.n m.b.id else if m.kind=4 then eQ m.b.n m.b.id++([(m.vs.length:Int)]++(m.vs.map kv).flatten) else if m.kind=6 then eQ m.b.n m.b.id++b32 m.s++mg m.c else if m.kind=7 then eQ m.b.n m.b.id++b32 m.s else if m.kind=8 then b32 m.s++mg m.c else if m.kind=9 then Ce m.r else if m.kind=10 then [m.peer]++b32 m.seq else []
def kG (m:MM):List Int:=[m.kind]++qj m
theorem Jn:∀ (l:List MV) (ps:List (Value×Value)),List.zipWith (λ x p=>jA x p.1 p.2) l ps=(l.zip ps).map λ x=>jA x.1 x.2.1 x.2.2
 | [],_=>by simp
 | _::_,[]=>by simp
 | _::l,_::ps=>by simp [Jn l ps]
section
variable {w:World} {v:Value} {n:Nat} {xs:List Value}
theorem KQ (ho:w.ownsRow 0 5 1 v n xs) (hn:n<=200000000) {l:List MV} {vv:Value} (hv:bV w vv l) (yu:l.length<=255) (hs:∀ v∈l,v.c.r.sm):af Tryz.prog 123 #[v,vv,.func (.func 124) #[] #[]] w (λ v' w'=>Put w v n xs ([(l.length:Int)]++(l.map kv).flatten) v' w'):=by
 obtain ⟨ps,hp,hf,hr⟩:=hv;have hlen:(l.zip ps).length=l.length:=by rw [List.length_zip,hp,Nat.min_self]
 have hmap:(l.zip ps).map (λ x=>kv x.1)=l.map kv:=by
  rw [show (λ x:MV×Value×Value=>kv x.1)=kv∘Prod.fst from rfl,<- List.map_map,List.map_fst_zip (by omega)]
 have hat:∀ x∈l.zip ps,aM w x.1.c.r x.2.1 x.2.2/\x.1∈l:=λ x hx=>by
  obtain ⟨i,hi⟩:=List.mem_iff_getElem?.1 hx;rw [List.getElem?_zip_eq_some] at hi;exact ⟨hr i x.1 x.2 hi.1 hi.2,List.mem_of_getElem? hi.1⟩
 rw [Jn,<- hlen] at hf;have h:=Jj (g:=λ x=>kv x.1) (L:=10010) (B:=300000000) hf (λ x hx w' v' n' xs' k h1 h2=>NZ h1 h2 ((hat x hx).1.kz k) (hs _ (hat x hx).2)) (λ x hx=>by
  obtain ⟨_,_,_,_,_,_,e1,e2⟩:=(hat x hx).1.sl;exact ⟨_,_,_,_,_,_,e1,e2⟩) (λ x hx=>PZ (hs _ (hat x hx).2)) (by omega) ho (by omega) (by decide)
 rw [hmap,hlen] at h;exact h
theorem P6 (ho:w.ownsRow 0 5 1 v n xs) (hn:n<=100000000) {m:MM} {rv dv vv rv' dS:Value} (hc:aM w m.c.r rv dv) (hv:bV w vv m.vs) (hr:aM w m.r rv' dS) (hs:m.sm) (hk:1<=m.kind/\m.kind<=10):af Tryz.prog 67 #[v,.agg (dL m rv dv vv rv' dS).toArray] w (λ v' w'=>Put w v n xs (kG m) v' w'):=by
 obtain ⟨_,_,_,_,_,_,rfl,rfl⟩:=hc.sl;obtain ⟨_,_,_,_,_,_,rfl,rfl⟩:=hr.sl;obtain ⟨_,_,rfl⟩:=hv.sl;obtain ⟨k,q,p,b,s,c,vs,r,peer,seq⟩:=m;dsimp only at hk hc hv hr;have hk:k=1\/k=2\/k=3\/k=4\/k=5\/k=6\/k=7\/k=8\/k=9\/k=10:=by omega
 have P0:=λ w1 (g1:GB none w w1)=>Put.pre g1 (Put.nil (jq ho g1))
 rcases hk with rfl | rfl | rfl | rfl | rfl | rfl | rfl | rfl | rfl | rfl
 ·refine aj ah mixed Tryz.func67 rfl rfl ?_
  refine λ w1 b1 m1 g1 l1=>?_
  have P:=P0 w1 g1;refine ⟨_,_,m1,_,rfl,_,dA P.row (by simp;omega) _,λ v2 w2 p2=>?_⟩;obtain ⟨P,m1⟩:=P.more p2 m1 (by decide);refine ⟨_,_,m1,_,rfl,?_⟩;refine ⟨_,_,m1,q.cells,rfl,rfl,_,Gt P.row (by simp;omega) _,λ v2 w2 p2=>?_⟩;exact (P.trans p2).eq (by simp [kG,qj])
 ·refine aj ah mixed Tryz.func67 rfl rfl ?_
  refine λ w1 b1 m1 g1 l1=>?_
  have P:=P0 w1 g1;refine ⟨_,_,m1,_,rfl,_,dA P.row (by simp;omega) _,λ v2 w2 p2=>?_⟩;obtain ⟨P,m1⟩:=P.more p2 m1 (by decide);refine ⟨_,_,m1,_,rfl,?_⟩;refine ⟨_,_,m1,p.cells,rfl,rfl,_,Gs P.row (by simp;omega) _,λ v2 w2 p2=>?_⟩;exact (P.trans p2).eq (by simp [kG,qj])
 ·refine aj ah mixed Tryz.func67 rfl rfl ?_
  refine λ w1 b1 m1 g1 l1=>?_
  have P:=P0 w1 g1;refine ⟨_,_,m1,_,rfl,_,dA P.row (by simp;omega) _,λ v2 w2 p2=>?_⟩;obtain ⟨P,m1⟩:=P.more p2 m1 (by decide);refine ⟨_,_,m1,_,rfl,?_⟩;refine ⟨_,_,m1,[.int .u32 b.n,.int .u8 b.id],rfl,rfl,_,pJ P.row (by simp;omega) _ _,λ v2 w2 p2=>?_⟩;exact (P.trans p2).eq (by simp [kG,qj])
 ·refine aj ah mixed Tryz.func67 rfl rfl ?_
  refine λ w1 b1 m1 g1 l1=>?_
  have P:=P0 w1 g1;refine ⟨_,_,m1,_,rfl,_,dA P.row (by simp;omega) _,λ v2 w2 p2=>?_⟩;obtain ⟨P,m1⟩:=P.more p2 m1 (by decide);refine ⟨_,_,m1,_,rfl,?_⟩;refine ⟨_,_,m1,[.int .u32 b.n,.int .u8 b.id],rfl,rfl,_,pJ P.row (by simp;omega) _ _,λ v2 w2 p2=>?_⟩;obtain ⟨P,m1⟩:=P.more p2 m1 (by decide);refine ⟨_,_,m1,_,rfl,_,KQ P.row (by simp [b32,eQ];omega) (hv.kz (P.kz ho)) hs.vl hs.vs,λ v2 w2 p2=>?_⟩;exact (P.trans p2).eq (by simp [kG,qj])
 ·refine aj ah mixed Tryz.func67 rfl rfl ?_
  refine λ w1 b1 m1 g1 l1=>?_
  have P:=P0 w1 g1;refine ⟨_,_,m1,_,rfl,_,dA P.row (by simp;omega) _,λ v2 w2 p2=>?_⟩;obtain ⟨P,m1⟩:=P.more p2 m1 (by decide);refine ⟨_,_,m1,_,rfl,?_⟩;refine ⟨_,_,m1,[.int .u32 b.n,.int .u8 b.id],rfl,rfl,_,pJ P.row (by simp;omega) _ _,λ v2 w2 p2=>?_⟩;exact (P.trans p2).eq (by simp [kG,qj])
 ·refine aj ah mixed Tryz.func67 rfl rfl ?_
  refine λ w1 b1 m1 g1 l1=>?_
  have P:=P0 w1 g1;refine ⟨_,_,m1,_,rfl,_,dA P.row (by simp;omega) _,λ v2 w2 p2=>?_⟩;obtain ⟨P,m1⟩:=P.more p2 m1 (by decide);refine ⟨_,_,m1,_,rfl,?_⟩;refine ⟨_,_,m1,[.int .u32 b.n,.int .u8 b.id],rfl,rfl,_,pJ P.row (by simp;omega) _ _,λ v2 w2 p2=>?_⟩;obtain ⟨P,m1⟩:=P.more p2 m1 (by decide);refine ⟨_,_,m1,_,rfl,_,iY P.row (by simp [b32,eQ];omega) _,λ v2 w2 p2=>?_⟩;obtain ⟨P,m1⟩:=P.more p2 m1 (by decide);refine ⟨_,_,m1,dz c _ _,rfl,rfl,_,Aj P.row (by simp [b32,eQ];omega) (hc.kz (P.kz ho)) hs.c,λ v2 w2 p2=>?_⟩;exact (P.trans p2).eq (by simp [kG,qj])
 ·refine aj ah mixed Tryz.func67 rfl rfl ?_
  refine λ w1 b1 m1 g1 l1=>?_
  have P:=P0 w1 g1;refine ⟨_,_,m1,_,rfl,_,dA P.row (by simp;omega) _,λ v2 w2 p2=>?_⟩;obtain ⟨P,m1⟩:=P.more p2 m1 (by decide);refine ⟨_,_,m1,_,rfl,?_⟩;refine ⟨_,_,m1,[.int .u32 b.n,.int .u8 b.id],rfl,rfl,_,pJ P.row (by simp;omega) _ _,λ v2 w2 p2=>?_⟩;obtain ⟨P,m1⟩:=P.more p2 m1 (by decide);refine ⟨_,_,m1,_,rfl,_,iY P.row (by simp [b32,eQ];omega) _,λ v2 w2 p2=>?_⟩;exact (P.trans p2).eq (by simp [kG,qj])
 ·refine aj ah mixed Tryz.func67 rfl rfl ?_
  refine λ w1 b1 m1 g1 l1=>?_
  have P:=P0 w1 g1;refine ⟨_,_,m1,_,rfl,_,dA P.row (by simp;omega) _,λ v2 w2 p2=>?_⟩;obtain ⟨P,m1⟩:=P.more p2 m1 (by decide);refine ⟨_,_,m1,_,rfl,?_⟩;refine ⟨_,_,m1,_,rfl,_,iY P.row (by simp;omega) _,λ v2 w2 p2=>?_⟩;obtain ⟨P,m1⟩:=P.more p2 m1 (by decide);refine ⟨_,_,m1,dz c _ _,rfl,rfl,_,Aj P.row (by simp [b32];omega) (hc.kz (P.kz ho)) hs.c,λ v2 w2 p2=>?_⟩;exact (P.trans p2).eq (by simp [kG,qj])
 ·refine aj ah mixed Tryz.func67 rfl rfl ?_
  refine λ w1 b1 m1 g1 l1=>?_
  have P:=P0 w1 g1;refine ⟨_,_,m1,_,rfl,_,dA P.row (by simp;omega) _,λ v2 w2 p2=>?_⟩;obtain ⟨P,m1⟩:=P.more p2 m1 (by decide);refine ⟨_,_,m1,_,rfl,?_⟩;refine ⟨_,_,m1,eO r _ _,rfl,rfl,_,Jm P.row (by simp;omega) (hr.kz (P.kz ho)) hs.r,λ v2 w2 p2=>?_⟩;exact (P.trans p2).eq (by simp [kG,qj])
 ·refine aj ah mixed Tryz.func67 rfl rfl ?_
  refine λ w1 b1 m1 g1 l1=>?_
  have P:=P0 w1 g1;refine ⟨_,_,m1,_,rfl,_,dA P.row (by simp;omega) _,λ v2 w2 p2=>?_⟩;obtain ⟨P,m1⟩:=P.more p2 m1 (by decide);refine ⟨_,_,m1,_,rfl,?_⟩;refine ⟨_,_,m1,_,rfl,_,dA P.row (by simp;omega) _,λ v2 w2 p2=>?_⟩;obtain ⟨P,m1⟩:=P.more p2 m1 (by decide);refine ⟨_,_,m1,_,rfl,_,iY P.row (by simp;omega) _,λ v2 w2 p2=>?_⟩;exact (P.trans p2).eq (by simp [kG,qj])
end
structure CS (P:Program) [jU P] (n:Nat) (c:Code) (K:Ex->Sg->World->Prop) (s:Sg) (w:World):Prop where
 go:∀ {main:Bool} {D:World->World->Array Event->Prop} {X:Goroutine->World->Prop} (_:SX P main D X) (b:Frame) (cs:List Frame),b.kind≠.early->∀ (k:List Item),(∀ e s w,K e s w->Aft X b cs n k e s w)->∀ a,Fit n s a->X (G (b.at a (.code c::k)) cs) w
section
variable {P:Program} [jU P] {n:Nat} {c x y:Code} {K K':Ex->Sg->World->Prop} {s q:Sg} {w:World}
theorem CS.of (E:kM P) (hm:P.follows .mixedOrders=true) (h:tY E n c K s w):CS P n c K s w:=⟨λ hX _b _cs hk k hK a hf=>CL hX hk hm c K k hK s w a hf h⟩
theorem CS.sub (h:CS P n c K q w) (hs:gV q s):CS P n c K s w:=⟨λ hX b cs hk k hK a hf=>h.go hX b cs hk k hK a (hf.sub hs)⟩
theorem CS.mono (h:CS P n c K s w) (hk:∀ e s w,K e s w->K' e s w):CS P n c K' s w:=⟨λ hX b cs hb k hK a hf=>h.go hX b cs hb k (λ e s w he=>hK e s w (hk e s w he)) a hf⟩
theorem CS.seq (h:CS P n x (λ e s w=>PQ (CS P n y K s w) (K e s w) e) s w):CS P n (.seq x y) K s w:=⟨λ hX b cs hk k hK a hf=>hX.c.seq (h.go hX b cs hk (.code y::k) (λ e s w he a hf=>by
 cases e with
 | n=>exact (show CS P n y K s w from he).go hX b cs hk k hK a hf
 | x j=>exact hK (.x j) s w he a hf
 | r=>exact hK .r s w he a hf) a hf)⟩
theorem CS.block {id:Nat} (h:CS P n c (λ e s w=>K (Yu id e) s w) s w):CS P n (.block id c) K s w:=⟨λ hX b cs hk k hK a hf=>hX.c.block (h.go hX b cs hk (.inBlock id::k) (λ e s w he a hf=>by
 cases e with
 | n=>exact hX.c.inBlock (hK .n s w he a hf)
 | x j =>
  have he:K (bif Nat.beq id j then .n else .x j) s w:=he;cases hb:Nat.beq id j with
  | true =>
   rw [hb] at he;have:=Nat.eq_of_beq_eq_true hb;subst this;exact ⟨k,by simp [exitTo],hK .n s w he a hf⟩
  | false =>
   rw [hb] at he;obtain ⟨k',h1,h2⟩:=hK (.x j) s w he a hf;have hne:¬ id=j:=λ e=>by subst e;rw [Nat.beq_refl] at hb;cases hb
   exact ⟨k',by unfold exitTo;rw [if_neg (by simpa using hne)];exact h1,h2⟩
 | r=>exact hK .r s w he a hf) a hf)⟩
theorem CS.loop (I:Nat->Sg->World->Prop) (h0:∃ m q,I m q w/\gV q s) (h:∀ m s w,I m s w->CS P n c (λ e s w=>PQ (∃ m' q,I m' q w/\gV q s/\m'<m) (K e s w) e) s w):CS P n (.loop c) K s w:=by
 refine ⟨λ {main D X} hX b cs hk k hK a hf=>?_⟩;obtain ⟨m,q,hI,hq⟩:=h0;refine hX.c.loop ?_;suffices hh:∀ N m q w a,m<=N->I m q w->Fit n q a->X (G (b.at a (.code c::.inLoop c::k)) cs) w from hh m m q w a (Nat.le_refl _) hI (hf.sub hq)
 intro N;induction N with
 | zero =>
  intro m q w a Yx hI hf;refine (h m q w hI).go hX b cs hk (.inLoop c::k) (λ e s w he a hf=>?_) a hf;cases e with
  | n=>obtain ⟨m',q',_,_,h3⟩:=(show ∃ m' q,I m' q w/\gV q s/\m'<m from he);omega
  | x j=>exact hK (.x j) s w he a hf
  | r=>exact hK .r s w he a hf
 | succ N Yy =>
  intro m q w a Yx hI hf;refine (h m q w hI).go hX b cs hk (.inLoop c::k) (λ e s w he a hf=>?_) a hf;cases e with
  | n=>obtain ⟨m',q',h1,h2,h3⟩:=(show ∃ m' q,I m' q w/\gV q s/\m'<m from he);exact hX.c.inLoop (Yy m' q' w a (by omega) h1 (hf.sub h2))
  | x j=>exact hK (.x j) s w he a hf
  | r=>exact hK .r s w he a hf
def YJ (Q:Sg->World->Prop) (e:Ex) (s:Sg) (w:World):Prop:=match e with
 | .n=>∃ q,gV q s/\Q q w
 | _=>False
theorem CS.piece {Q:Sg->World->Prop} (h:CS P n x (YJ Q) s w) (hy:∀ q w,Q q w->CS P n y K q w):CS P n (.seq x y) K s w:=CS.seq (h.mono λ e s w he=>by
 cases e with
 | n=>obtain ⟨q,h1,h2⟩:=(show ∃ q,gV q s/\Q q w from he);exact (hy q w h2).sub h1
 | x j=>exact he.elim
 | r=>exact he.elim)
theorem CS.cond {o:Operand} (t:Bool) (he:ev s o=some (.bool t)) (h:CS P n (bif t then x else y) K s w):CS P n (.cond o x y) K s w:=⟨λ hX b cs hk k hK a hf=>by
 refine hX.c.cond t (hf.ev _ _ he) ?_;cases t
 ·exact h.go hX b cs hk k hK a hf
 ·exact h.go hX b cs hk k hK a hf⟩
def Out (Qn:Sg->World->Prop) (Qx:Nat->Sg->World->Prop) (Qr:Sg->World->Prop) (e:Ex) (s:Sg) (w:World):Prop:=match e with
 | .n=>∃ q,gV q s/\Qn q w
 | .x j=>∃ q,gV q s/\Qx j q w
 | .r=>∃ q,gV q s/\Qr q w
theorem CS.cut {Qn:Sg->World->Prop} {Qx:Nat->Sg->World->Prop} {Qr:Sg->World->Prop} (h:CS P n x (Out Qn Qx Qr) s w) (hn:∀ q w,Qn q w->CS P n y K q w) (hx:∀ j q s w,Qx j q w->gV q s->K (.x j) s w) (hr:∀ q s w,Qr q w->gV q s->K .r s w):CS P n (.seq x y) K s w:=CS.seq (h.mono λ e s w he=>by
 cases e with
 | n=>obtain ⟨q,h1,h2⟩:=(show ∃ q,gV q s/\Qn q w from he);exact (hn q w h2).sub h1
 | x j=>obtain ⟨q,h1,h2⟩:=(show ∃ q,gV q s/\Qx j q w from he);exact hx j q s w h2 h1
 | r=>obtain ⟨q,h1,h2⟩:=(show ∃ q,gV q s/\Qr q w from he);exact hr q s w h2 h1)
theorem Bq {E:kM P}:∀ {rs:List ResultVar} {L:List Value->Prop},gV q s->xy E w q L rs->xy E w s L rs
 | [],_,_,h=>h
 | .tmp t::r,L,hs,h=>by
  unfold xy at h |-;cases hq:at? q t with
  | none=>rw [hq] at h;exact h.elim
  | some v=>rw [hq] at h;rw [hs.get hq];exact Bq hs h
 | .cell p t::r,L,hs,h=>by
  unfold xy at h |-;cases hq:at? q p with
  | none=>rw [hq] at h;exact h.elim
  | some v =>
   rw [hq] at h;rw [hs.get hq];dsimp only at h |-;unfold xw at h |-;split at h
   ·split at h
    ·rename_i y hy
     obtain ⟨xs,ty,h1,h2⟩:=h;refine ⟨xs,ty,h1,?_⟩;cases hS:jT y with
     | true =>
      rw [hS] at h2;dsimp only [gT] at h2 |-;cases h0:Nat.beq (bD E.T t) 0 with
      | true=>rw [h0] at h2;exact (show False from h2).elim
      | false=>rw [h0] at h2;dsimp only at h2 |-;obtain ⟨c,a1,a2,a3⟩:=h2;exact ⟨c,a1,a2,Bq hs a3⟩
     | false=>rw [hS] at h2;dsimp only [gT] at h2 |-;obtain ⟨v,a1,a2⟩:=h2;exact ⟨v,a1,Bq hs a2⟩
    ·exact h.elim
   ·exact h.elim
theorem qY {E:kM P} {rs:List ResultVar} {Post:Value->World->Prop} (hs:gV q s) (h:xy E w q (FB Post w) rs):Ab E rs Post .r s w:=Bq hs h
end
theorem N7 {P:Program} [jU P] (E:kM P) {f:FuncId} {fn:Func} {c:Code} {args:List Value} {w:World} {Post:Value->World->Prop} (hf:P.funcs[f]? = some fn) (hb:fn.body=some c) (hn:Nat.ble args.length fn.ntmps=true) (h:CS P fn.ntmps c (Ab E fn.results.toList Post) (uI args 0) w) {main:Bool} {D:World->World->Array Event->Prop} {X:Goroutine->World->Prop} (hX:SX P main D X) {cs:List Frame} (hk:∀ fr v w',fr.fn=f->fr.leaving P w' (.returned v)->Post v w'->X (G fr cs) w'):X (G (Frame.enter P f args.toArray .normal) cs) w:=by
 rw [enter_at (P:=P) args.toArray hf hb];have hle:=Nat.le_of_ble_eq_true hn;refine h.go hX _ cs (by unfold Go.Conc.base;exact nofun) [] ?_ _ ?_
 ·intro e s w he a hfit
  have fin:∀ todo,xy E w s (FB Post w) fn.results.toList->X (G { (Go.Conc.base f).at a todo with mode:=.returning } cs) w:=by
   intro todo hr;obtain ⟨l,h1,h2⟩:=PR _ _ a.tmps hfit.get hr;have hres:(results fn a.tmps).run P w=.ok (if h:l.toArray.size=1 then l.toArray[0] else .tuple l.toArray) w:=by
    have e:results fn a.tmps=(do let vs <- fn.results.mapM (sN a.tmps);pure (if h:vs.size=1 then vs[0] else .tuple vs)):=by
     unfold results;congr 2
    have e2:(fn.results.mapM (sN a.tmps)).run P w=.ok l.toArray w:=by
     rw [show fn.results.mapM (sN a.tmps)=List.toArray <$> (fn.results.toList.mapM (sN a.tmps)) from Array.mapM_eq_mapM_toList ..];show Sem.run P ((fn.results.toList.mapM (sN a.tmps)) >>= λ l=>pure l.toArray) w=_;rw [Sem.run_bind,h2];rfl
    rw [e,Sem.run_bind,e2];rfl
   refine hk _ (if h:l.toArray.size=1 then l.toArray[0] else .tuple l.toArray) w rfl ⟨rfl,hfit.defers,rfl,fn,hf,hres⟩ ?_;unfold FB at h1;split at h1
   ·exact h1
   ·rename_i hne
    rw [dif_neg]
    ·exact h1
    ·intro h1
     simp only [List.size_toArray] at h1;obtain ⟨v,rfl⟩:=List.length_eq_one_iff.1 h1;exact hne v rfl
  cases e with
  | n=>exact hX.c.fin (fin [] he)
  | x j=>exact he.elim
  | r=>exact λ todo=>fin todo he
 ·refine ⟨rfl,?_,λ i v hi=>?_⟩
  ·simp;omega
  ·obtain ⟨d,h1,h2⟩:=yh hi
   rw [Nat.zero_add] at h1;subst h1;have hlt:i<args.length:=(List.getElem?_eq_some_iff.1 h2).1;rw [Array.getD_eq_getD_getElem?];show (((args.toArray++Array.replicate _ undef)[i]?).getD undef)=v;rw [Array.getElem?_append_left (by simpa using hlt)];simp [h2]
theorem Ak {P:Program} (E:kM P) {f:FuncId} {fn:Func} {c:Code} {args:List Value} {w:World} {Post:Value->World->Prop} (hf:P.funcs[f]? = some fn) (hb:fn.body=some c) (hn:Nat.ble args.length fn.ntmps=true) (h:CS P fn.ntmps c (Ab E fn.results.toList Post) (uI args 0) w):af P f args.toArray w Post :=
 λ _ _ _ _ hX hk=>N7 E hf hb hn h ⟨hX,trivial⟩ hk
def fT (A:aT) (R:MR) (c:MC):MR:=if 60<=R.sc.next\/kF R.props c=true\/kF R.known c=true then R else gY A { R with sc:={ R.sc with next:=R.sc.next+1 } } R.sc.next c
section
variable {A:aT} (HA:bK A)
include HA
theorem Ok.offer {R:MR} (ho:Ok A R) {c:MC} (hgc:A.gc c):Ok A (fT A R c)/\(fT A R c).out.length<=R.out.length+315/\(fT A R c).sc.i=R.sc.i/\(fT A R c).sc.sz=R.sc.sz:=by
 unfold fT;split
 ·exact ⟨ho,by omega,rfl,rfl⟩
 ·rename_i h
  have uS:R.sc.next<60:=by omega
  have o2:Ok A { R with sc:={ R.sc with next:=R.sc.next+1 } }:=⟨ho.sz,ho.i,ho.st,ho.kn,ho.pp,ho.vt,ho.wv,ho.mt,ho.ac,ho.pr,ho.lg,ho.lc,by show R.sc.next+1<=60;omega,ho.sn⟩;exact o2.prop HA uS hgc
variable {Λ:bU} {w:World} {br:Nat} {R:MR}
theorem CY (h:Wk Λ br R w) (ho:Ok A R) {c:MC} (hgc:A.gc c) {cv:Value} (hc:jI w cv c) (hb:R.out.length<=870000):af Tryz.prog 137 #[Ptt br,cv] w (λ v w'=>v=.tuple #[]/\Wk Λ br (fT A R c) w'/\Kz w w'):=by
 obtain ⟨rv,dv,rfl,hr⟩:=hc;refine aj ah mixed Tryz.func137 rfl rfl ?_;intro w1 b1 m1 g1 l1;obtain ⟨a,h⟩:=h;have h1:=h.box g1 m1 l1;have u1:=h.qf l1;have hnx:=ho.nx;refine ⟨by kernel_rfl,_,_,h1.ri.mem,_,rfl,au (λ d=>?_) (λ d=>?_)⟩
 ·have d1:R.sc.next<60:=by simp at d;omega
  have hc1:jI w1 (.agg (dz c rv dv).toArray) c:=⟨_,_,rfl,hr.kz g1.kz⟩;refine ⟨_,_,h1.ri.mem,_,rfl,_,_,m1,dz c rv dv,rfl,rfl,_,CW h1.ri.pp (λ k d h=>(ho.pp k d h).2) hc1,?_⟩;rintro _ w2 ⟨rfl,g2⟩;have h2:=h1.ax g2;have m2:=g2.get m1 nofun;refine ⟨⟨m2,h2.ri.mem,h2.ri.mem,trivial⟩,au (λ e=>?_) (λ e=>?_)⟩
  ·have e1:kF R.props c=false:=eq_of_beq e
   refine ⟨⟨_,_,h2.ri.mem,_,rfl,_,_,m2,dz c rv dv,rfl,rfl,_,CW h2.ri.kn (λ k d h=>(ho.kn k d h).2) (hc1.kz g2.kz),?_⟩,⟨_,_,m2,dz c rv dv,rfl,rfl,_,_,h2.ri.mem,_,rfl,_,CW h2.ri.kn (λ k d h=>(ho.kn k d h).2) (hc1.kz g2.kz),?_⟩⟩;all_goals
    rintro _ w3 ⟨rfl,g3⟩;have h3:=h2.ax g3;have m3:=g3.get m2 nofun;have kk:=((g1.trans g2).trans g3).kz;refine au (λ e'=>?_) (λ e'=>?_)
    ·have e2:kF R.known c=true:=e'
     have em:fT A R c=R:=if_pos (.inr (.inr e2));rw [em];exact ⟨rfl,Wk.drop ⟨_,h3⟩ u1,kk⟩
    ·have e2:kF R.known c=false:=e'
     have em:fT A R c=gY A { R with sc:={ R.sc with next:=R.sc.next+1 } } R.sc.next c:=if_neg (by rw [e1,e2];simp;omega);rw [em];refine ⟨_,_,h3.ri.mem,_,rfl,_,_,h3.ri.mem,_,rfl,by omega,_,_,_,h3.ri.mem,rfl,rfl,λ w4 m4 g4=>?_⟩;have h4:=h3.cell (s':={ R.sc with next:=R.sc.next+1 }) m4 g4;have k4:=h3.ri.kz h3.ri.iX g4;have m5:=(h4.pr b1 _ (bU.xz _ _ _)).1;have o4:Ok A { R with sc:={ R.sc with next:=R.sc.next+1 } }:=⟨ho.sz,ho.i,ho.st,ho.kn,ho.pp,ho.vt,ho.wv,ho.mt,ho.ac,ho.pr,ho.lg,ho.lc,by show R.sc.next+1<=60;omega,ho.sn⟩;have hc4:jI w4 (.agg (dz c rv dv).toArray) c:=⟨_,_,rfl,(hr.kz kk).kz k4⟩;refine ⟨_,_,m5,dz c rv dv,rfl,rfl,_,FE HA (Wk.drop ⟨_,h4⟩ u1) o4 d1 hgc hc4 hb,?_⟩;rintro _ w5 ⟨rfl,h5,k5⟩;exact ⟨rfl,h5,(kk.trans k4).trans k5⟩
  ·have e1:kF R.props c=true:=by cases h:kF R.props c;rw [h] at e;cases e;rfl
   have em:fT A R c=R:=if_pos (.inr (.inl e1));rw [em];exact ⟨⟨rfl,Wk.drop ⟨_,h2⟩ u1,(g1.trans g2).kz⟩,⟨rfl,Wk.drop ⟨_,h2⟩ u1,(g1.trans g2).kz⟩⟩
 ·have d1:60<=R.sc.next:=by simp at d;omega
  have em:fT A R c=R:=if_pos (.inl d1);rw [em];exact ⟨rfl,Wk.drop ⟨_,h1⟩ u1,g1.kz⟩
end
end
end Go.Proofs.YtignemioillaiabGreat
