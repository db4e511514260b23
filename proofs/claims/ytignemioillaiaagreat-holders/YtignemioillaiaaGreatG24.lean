/- Lemmas. -/
import Derived.Test.YtignemioillaiaaGreatG23
namespace Go.Proofs.YtignemioillaiaaGreat
set_option maxHeartbeats 8000000
set_option linter.unusedSectionVars false
set_option maxRecDepth 100000
open List
section
open Go Go.Conc
theorem Put.kz{w w1:World}{v v1:Value}{n:Nat}{xs:List Value}{a:List Int}(h:Put w v n xs a v1 w1)(ho:w.ownsRow 0 5 1 v n xs):Kz w w1:=λt ht b c hb=>h.get ho hb λe=>by subst e;revert ht;decide
theorem qj{α:Type}{g:α->List Int}{L:Nat}:∀{l:List α},(∀x∈l,(g x).length<=L)->(l.map g).flatten.length<=l.length*L
 | [],_=>by simp
 |x::l,h=>by
  have h1:=h x mem_cons_self;have h2:=qj (l:=l) λy hy=>h y (mem_cons_of_mem _ hy)
  simp only[map_cons,flatten_cons,length_append,length_cons,Nat.succ_mul];omega
theorem Bl{α β:Type}(g:α->List β){l:List α}{k:Nat}{x:α}(h:l[k]? = some x):((l.take (k+1)).map g).flatten=((l.take k).map g).flatten++g x:=by
 rw[take_add_one,h];simp
section
variable{w:World}{v lv:Value}{n B L:Nat}{xs:List Value}
theorem MH{els:List (Row)}{g:Row->List Int}(hl:Fz w 128 2 lv els.length (els.map λx=>x.cells).flatten)(hc:∀x∈els,∀(w':World) (v':Value) (n':Nat) (xs':List Value),Kz w w'->w'.ownsRow 0 5 1 v' n' xs'->n'<=B->ag Tryz.prog 237 #[v',.agg (x.cells).toArray] w' (λv'' w''=>Put w' v' n' xs' (g x) v'' w''))(hg:∀x∈els,(g x).length<=L)(zt:els.length<=255)(ho:w.ownsRow 0 5 1 v n xs)(hn:n+1+255*L<=B)(hB:B<=800000000):ag Tryz.prog 236 #[v,lv,.func (.func 237) #[] #[]] w (λv' w'=>Put w v n xs ([(els.length:Int)]++(els.map g).flatten) v' w'):=by
 obtain⟨a,c,rfl,hcap,hlen,hv⟩:=hl;refine ah Tryz.func236 rfl rfl ?_;refine .inl ⟨by omega,?_⟩;refine⟨_,dE ho (by omega) _,λv1 w1 P=>?_⟩;obtain⟨a1,c1,rfl⟩:=af P.row;refine⟨λm s wk=>∃(k:Nat) (vk:Value),m=els.length - k/\k<=els.length/\s=[(0,vk),(2,.func (.func 237) #[] #[]),(14,.slice a els.length c),(15,.int .i64 els.length),(16,.int .i64 k)]/\Put w v n xs ([(els.length:Int)]++((els.take k).map g).flatten) vk wk,⟨_,_,⟨0,_,rfl,Nat.zero_le _,rfl,P.eq (by simp)⟩,rfl,rfl,rfl,rfl,rfl,trivial⟩,?_⟩;clear P;rintro m s wk ⟨k,vk,rfl,hk,rfl,P⟩;obtain⟨ak,ck,rfl⟩:=af P.row;refine aj (λd=>?_) (λd=>?_)
 ·have d1:k<els.length:=by have:=Ptq d;omega
  obtain⟨x,hx⟩:∃x,els[k]? = some x:=⟨els[k],by simp[d1]⟩;have hm:=List.mem_of_getElem? hx;rcases hv with⟨_,h0⟩|⟨b,off,cs,rfl,hb,hcut⟩
  ·omega
  have hel:aK cs.toList (off+k*2) 2=x.cells:=(Fz.elem hcut d1).trans (by rw[<-flatMap_def];exact jZ (f:=λx:Row=>x.cells) (λ_=>rfl) els k x hx);have hb':=P.kz ho 128 (by decide) b cs hb;refine⟨by omega,_,_,hb',x.cells,by show aK cs.toList (off+(k:Int).toNat*2) 2=_;rw[Int.toNat_natCast];exact hel,rfl,λw2 b2 m2 g2 l2=>⟨_,_,_,m2,rfl,rfl,λw3 m3 g3=>?_⟩⟩;have g23:=g2.new g3 l2;have hlk:=qj (l:=els.take k) (L:=L) λy hy=>hg y (mem_of_mem_take hy)
  have hL:(els.take k).length*L<=255*L:=Nat.mul_le_mul_right _ (by rw[length_take];omega);refine⟨_,_,m3,x.cells,rfl,rfl,_,hc x hm w3 _ _ _ ((P.kz ho).trans g23.kz) (jP P.row g23) (by rw[length_append,length_singleton];omega),λv4 w4 p4=>?_⟩;obtain⟨a4,c4,rfl⟩:=af p4.row;exact⟨by omega,_,_,⟨k+1,_,rfl,by omega,rfl,(P.trans (p4.pre g23)).eq (by rw[Bl g hx];simp)⟩,⟨rfl,rfl,rfl,rfl,rfl,trivial⟩,by omega⟩
 ·have d1:k=els.length:=by have:=Ptx d;omega
  exact P.eq (by rw[d1,take_length])
theorem MI{els:List (aA)}{g:aA->List Int}(hl:Fz w 57 7 lv els.length (els.map λx=>x.cells).flatten)(hc:∀x∈els,∀(w':World) (v':Value) (n':Nat) (xs':List Value),Kz w w'->w'.ownsRow 0 5 1 v' n' xs'->n'<=B->ag Tryz.prog 216 #[v',.agg (x.cells).toArray] w' (λv'' w''=>Put w' v' n' xs' (g x) v'' w''))(hg:∀x∈els,(g x).length<=L)(zt:els.length<=255)(ho:w.ownsRow 0 5 1 v n xs)(hn:n+1+255*L<=B)(hB:B<=800000000):ag Tryz.prog 238 #[v,lv,.func (.func 216) #[] #[]] w (λv' w'=>Put w v n xs ([(els.length:Int)]++(els.map g).flatten) v' w'):=by
 obtain⟨a,c,rfl,hcap,hlen,hv⟩:=hl;refine ah Tryz.func238 rfl rfl ?_;refine .inl ⟨by omega,?_⟩;refine⟨_,dE ho (by omega) _,λv1 w1 P=>?_⟩;obtain⟨a1,c1,rfl⟩:=af P.row;refine⟨λm s wk=>∃(k:Nat) (vk:Value),m=els.length - k/\k<=els.length/\s=[(0,vk),(2,.func (.func 216) #[] #[]),(14,.slice a els.length c),(15,.int .i64 els.length),(16,.int .i64 k)]/\Put w v n xs ([(els.length:Int)]++((els.take k).map g).flatten) vk wk,⟨_,_,⟨0,_,rfl,Nat.zero_le _,rfl,P.eq (by simp)⟩,rfl,rfl,rfl,rfl,rfl,trivial⟩,?_⟩;clear P;rintro m s wk ⟨k,vk,rfl,hk,rfl,P⟩;obtain⟨ak,ck,rfl⟩:=af P.row;refine aj (λd=>?_) (λd=>?_)
 ·have d1:k<els.length:=by have:=Ptq d;omega
  obtain⟨x,hx⟩:∃x,els[k]? = some x:=⟨els[k],by simp[d1]⟩;have hm:=List.mem_of_getElem? hx;rcases hv with⟨_,h0⟩|⟨b,off,cs,rfl,hb,hcut⟩
  ·omega
  have hel:aK cs.toList (off+k*7) 7=x.cells:=(Fz.elem hcut d1).trans (by rw[<-flatMap_def];exact jZ (f:=λx:aA=>x.cells) (λ_=>rfl) els k x hx);have hb':=P.kz ho 57 (by decide) b cs hb;refine⟨by omega,_,_,hb',x.cells,by show aK cs.toList (off+(k:Int).toNat*7) 7=_;rw[Int.toNat_natCast];exact hel,rfl,λw2 b2 m2 g2 l2=>⟨_,_,_,m2,rfl,rfl,λw3 m3 g3=>?_⟩⟩;have g23:=g2.new g3 l2;have hlk:=qj (l:=els.take k) (L:=L) λy hy=>hg y (mem_of_mem_take hy)
  have hL:(els.take k).length*L<=255*L:=Nat.mul_le_mul_right _ (by rw[length_take];omega);refine⟨_,_,m3,x.cells,rfl,rfl,_,hc x hm w3 _ _ _ ((P.kz ho).trans g23.kz) (jP P.row g23) (by rw[length_append,length_singleton];omega),λv4 w4 p4=>?_⟩;obtain⟨a4,c4,rfl⟩:=af p4.row;exact⟨by omega,_,_,⟨k+1,_,rfl,by omega,rfl,(P.trans (p4.pre g23)).eq (by rw[Bl g hx];simp)⟩,⟨rfl,rfl,rfl,rfl,rfl,trivial⟩,by omega⟩
 ·have d1:k=els.length:=by have:=Ptx d;omega
  exact P.eq (by rw[d1,take_length])
theorem Ko{els:List (MV×Value×Value)}{g:MV×Value×Value->List Int}(hl:Fz w 196 20 lv els.length (els.map λx=>jU x.1 x.2.1 x.2.2).flatten)(hc:∀x∈els,∀(w':World) (v':Value) (n':Nat) (xs':List Value),Kz w w'->w'.ownsRow 0 5 1 v' n' xs'->n'<=B->ag Tryz.prog 219 #[v',.agg (jU x.1 x.2.1 x.2.2).toArray] w' (λv'' w''=>Put w' v' n' xs' (g x) v'' w''))(hs:∀x∈els,∃a n c a' n' c',x.2.1=.slice a n c/\x.2.2=.slice a' n' c')(hg:∀x∈els,(g x).length<=L)(zt:els.length<=255)(ho:w.ownsRow 0 5 1 v n xs)(hn:n+1+255*L<=B)(hB:B<=800000000):ag Tryz.prog 218 #[v,lv,.func (.func 219) #[] #[]] w (λv' w'=>Put w v n xs ([(els.length:Int)]++(els.map g).flatten) v' w'):=by
 obtain⟨a,c,rfl,hcap,hlen,hv⟩:=hl;refine ah Tryz.func218 rfl rfl ?_;refine .inl ⟨by omega,?_⟩;refine⟨_,dE ho (by omega) _,λv1 w1 P=>?_⟩;obtain⟨a1,c1,rfl⟩:=af P.row;refine⟨λm s wk=>∃(k:Nat) (vk:Value),m=els.length - k/\k<=els.length/\s=[(0,vk),(2,.func (.func 219) #[] #[]),(14,.slice a els.length c),(15,.int .i64 els.length),(16,.int .i64 k)]/\Put w v n xs ([(els.length:Int)]++((els.take k).map g).flatten) vk wk,⟨_,_,⟨0,_,rfl,Nat.zero_le _,rfl,P.eq (by simp)⟩,rfl,rfl,rfl,rfl,rfl,trivial⟩,?_⟩;clear P;rintro m s wk ⟨k,vk,rfl,hk,rfl,P⟩;obtain⟨ak,ck,rfl⟩:=af P.row;refine aj (λd=>?_) (λd=>?_)
 ·have d1:k<els.length:=by have:=Ptq d;omega
  obtain⟨x,hx⟩:∃x,els[k]? = some x:=⟨els[k],by simp[d1]⟩;have hm:=List.mem_of_getElem? hx;obtain⟨x1,x2,x3⟩:=x;obtain⟨_,_,_,_,_,_,e1,e2⟩:=hs _ hm;dsimp only at e1 e2;subst e1;subst e2;have hc0:=hc _ hm;rcases hv with⟨_,h0⟩|⟨b,off,cs,rfl,hb,hcut⟩
  ·omega
  have hel:aK cs.toList (off+k*20) 20=jU x1 (.slice _ _ _) (.slice _ _ _):=(Fz.elem hcut d1).trans (by rw[<-flatMap_def];exact jZ (f:=λx:MV×Value×Value=>jU x.1 x.2.1 x.2.2) (λ_=>rfl) els k _ hx);have hb':=P.kz ho 196 (by decide) b cs hb;refine⟨by omega,_,_,hb',jU x1 (.slice _ _ _) (.slice _ _ _),by show aK cs.toList (off+(k:Int).toNat*20) 20=_;rw[Int.toNat_natCast];exact hel,rfl,λw2 b2 m2 g2 l2=>⟨_,_,_,m2,rfl,rfl,λw3 m3 g3=>?_⟩⟩;have g23:=g2.new g3 l2;have hlk:=qj (l:=els.take k) (L:=L) λy hy=>hg y (mem_of_mem_take hy)
  have hL:(els.take k).length*L<=255*L:=Nat.mul_le_mul_right _ (by rw[length_take];omega);refine⟨_,_,m3,jU x1 (.slice _ _ _) (.slice _ _ _),rfl,rfl,_,hc0 w3 _ _ _ ((P.kz ho).trans g23.kz) (jP P.row g23) (by rw[length_append,length_singleton];omega),λv4 w4 p4=>?_⟩;obtain⟨a4,c4,rfl⟩:=af p4.row;exact⟨by omega,_,_,⟨k+1,_,rfl,by omega,rfl,(P.trans (p4.pre g23)).eq (by rw[Bl g hx];simp)⟩,⟨rfl,rfl,rfl,rfl,rfl,trivial⟩,by omega⟩
 ·have d1:k=els.length:=by have:=Ptx d;omega
  exact P.eq (by rw[d1,take_length])
end
def Rg.sm(r:Rg):Prop:=r.rows.length<=255/\r.aZ.length<=255
def Fw(r:Rg):List Int:=[r.src]++[r.dst]++b32 r.seq++b64 r.lo++b64 r.hi++([(r.rows.length:Int)]++(r.rows.map sN).flatten)++([(r.aZ.length:Int)]++(r.aZ.map ny).flatten)
def nA(c:MC):List Int:=[c.kind]++(if c.kind=1 then uE c.q else if c.kind=2 then Fw c.r else if c.kind=3 then[c.peer]++b32 c.seq else[])
def kY(v:MV):List Int:=b32 v.slot++fE v.b.n v.b.id++nA v.c
theorem Eb(x:Row):(sN x).length=16:=by simp[sN,b64,b32]
theorem Kq(p:aA):(ny p).length<=23:=by
 unfold ny;split
 ·split<;>simp[Cq,b64,b32]
 ·split<;>simp[b64,b32]
theorem Kr(q:bQ):(uE q).length<=23:=by
 unfold uE;split
 ·simp[b64,b32]
 ·split<;>simp[b64,b32]
theorem X7{r:Rg}(h:r.sm):(Fw r).length<=10000:=by
 have h1:=qj (g:=sN) (L:=16) (l:=r.rows) λx _=>Nat.le_of_eq (Eb x)
 have h2:=qj (g:=ny) (L:=23) (l:=r.aZ) λx _=>Kq x
 obtain⟨h3,h4⟩:=h;unfold Fw;generalize (r.rows.map sN).flatten=a at *;generalize (r.aZ.map ny).flatten=b at *;simp[b64,b32];omega
theorem UM{c:MC}(h:c.r.sm):(nA c).length<=10001:=by
 unfold nA;have:=X7 h;have:=Kr c.q;split
 ·simp;omega
 ·split
  ·simp;omega
  ·split<;>simp[b32]
theorem Ro{v:MV}(h:v.c.r.sm):(kY v).length<=10010:=by
 unfold kY;have:=UM h;simp[b32,fE];omega
section
variable{w:World}{v:Value}{n:Nat}{xs:List Value}
theorem Kt(ho:w.ownsRow 0 5 1 v n xs)(hn:n<=500000000){r:Rg}{rv dv:Value}(hr:aM w r rv dv)(hs:r.sm):ag Tryz.prog 222 #[v,.agg (eu r rv dv).toArray] w (λv' w'=>Put w v n xs (Fw r) v' w'):=by
 obtain⟨ra,rn,rc,da,dn,dc,rfl,rfl⟩:=hr.sl;refine ah Tryz.func222 rfl rfl ?_;refine λw1 b1 m1 g1 l1=>?_
 have P:=Put.pre g1 (Put.nil (jP ho g1));refine⟨_,_,m1,_,rfl,_,dE P.row (by simp;omega) _,λv2 w2 p2=>?_⟩;obtain⟨P,m1⟩:=P.more p2 m1 (by decide);refine⟨_,_,m1,_,rfl,_,dE P.row (by simp;omega) _,λv2 w2 p2=>?_⟩;obtain⟨P,m1⟩:=P.more p2 m1 (by decide);refine⟨_,_,m1,_,rfl,_,jq P.row (by simp;omega) _,λv2 w2 p2=>?_⟩;obtain⟨P,m1⟩:=P.more p2 m1 (by decide);refine⟨_,_,m1,_,rfl,_,mi P.row (by simp[b32];omega) _,λv2 w2 p2=>?_⟩;obtain⟨P,m1⟩:=P.more p2 m1 (by decide);refine⟨_,_,m1,_,rfl,_,mi P.row (by simp[b32,b64];omega) _,λv2 w2 p2=>?_⟩;obtain⟨P,m1⟩:=P.more p2 m1 (by decide);have hr':=hr.kz (P.kz ho);refine⟨_,_,m1,_,rfl,_,MH (g:=sN) (L:=16) (B:=600000000) hr'.1 (λx _ w' v' n' xs' _ h1 h2=>Rm h1 (by omega) x) (λx _=>Nat.le_of_eq (Eb x)) hs.1 P.row (by simp[b32,b64];omega) (by decide),λv2 w2 p2=>?_⟩;obtain⟨P,m1⟩:=P.more p2 m1 (by decide);have hr':=hr.kz (P.kz ho);have hl:=qj (g:=sN) (L:=16) (l:=r.rows) λx _=>Nat.le_of_eq (Eb x)
 have hl1:=hs.1;refine⟨_,_,m1,_,rfl,_,MI (g:=ny) (L:=23) (B:=600000000) hr'.2 (λx _ w' v' n' xs' _ h1 h2=>Il h1 (by omega) x) (λx _=>Kq x) hs.2 P.row (by generalize (r.rows.map sN).flatten=a at *;simp[b32,b64];omega) (by decide),λv2 w2 p2=>?_⟩;exact(P.trans p2).eq rfl
theorem Bn(ho:w.ownsRow 0 5 1 v n xs)(hn:n<=400000000){c:MC}{rv dv:Value}(hr:aM w c.r rv dv)(hs:c.r.sm):ag Tryz.prog 221 #[v,.agg (dC c rv dv).toArray] w (λv' w'=>Put w v n xs (nA c) v' w'):=by
 obtain⟨ra,rn,rc,da,dn,dc,rfl,rfl⟩:=hr.sl;refine ah Tryz.func221 rfl rfl ?_;refine λw1 b1 m1 g1 l1=>?_
 have P:=Put.pre g1 (Put.nil (jP ho g1));refine⟨_,_,m1,_,rfl,_,dE P.row (by simp;omega) _,λv2 w2 p2=>?_⟩;obtain⟨P,m1⟩:=P.more p2 m1 (by decide);refine⟨_,_,m1,_,rfl,aj (λd=>?_) (λd=>?_)⟩
 ·have d1:c.kind=1:=by simpa using d
  refine⟨_,_,m1,c.q.cells,rfl,rfl,_,Im P.row (by simp;omega) _,λv2 w2 p2=>?_⟩;exact(P.trans p2).eq (by simp[nA,d1])
 ·have d1:¬c.kind=1:=by simpa using d
  refine aj (λe=>?_) (λe=>?_)
  ·have e1:c.kind=2:=by simpa using e
   refine⟨_,_,m1,eu c.r _ _,rfl,rfl,_,Kt P.row (by simp;omega) (hr.kz (P.kz ho)) hs,λv2 w2 p2=>?_⟩;exact(P.trans p2).eq (by simp[nA,e1])
  ·have e1:¬c.kind=2:=by simpa using e
   refine aj (λf=>?_) (λf=>?_)
   ·have f1:c.kind=3:=by simpa using f
    refine⟨_,_,m1,_,rfl,_,dE P.row (by simp;omega) _,λv2 w2 p2=>?_⟩;obtain⟨P,m1⟩:=P.more p2 m1 (by decide);refine⟨_,_,m1,_,rfl,_,jq P.row (by simp;omega) _,λv2 w2 p2=>?_⟩;exact(P.trans p2).eq (by simp[nA,f1])
   ·have f1:¬c.kind=3:=by simpa using f
    exact P.eq (by simp[nA,d1,e1,f1])
theorem Ps(ho:w.ownsRow 0 5 1 v n xs)(hn:n<=300000000){x:MV}{rv dv:Value}(hr:aM w x.c.r rv dv)(hs:x.c.r.sm):ag Tryz.prog 219 #[v,.agg (jU x rv dv).toArray] w (λv' w'=>Put w v n xs (kY x) v' w'):=by
 obtain⟨ra,rn,rc,da,dn,dc,rfl,rfl⟩:=hr.sl;refine ah Tryz.func219 rfl rfl ?_;refine λw1 b1 m1 g1 l1=>?_
 have P:=Put.pre g1 (Put.nil (jP ho g1));refine⟨_,_,m1,_,rfl,_,jq P.row (by simp;omega) _,λv2 w2 p2=>?_⟩;obtain⟨P,m1⟩:=P.more p2 m1 (by decide);refine⟨_,_,m1,[.int .u32 x.b.n,.int .u8 x.b.id],rfl,rfl,_,qH P.row (by simp[b32];omega) _ _,λv2 w2 p2=>?_⟩;obtain⟨P,m1⟩:=P.more p2 m1 (by decide);refine⟨_,_,m1,dC x.c _ _,rfl,rfl,_,Bn P.row (by simp[b32,fE];omega) (hr.kz (P.kz ho)) hs,λv2 w2 p2=>?_⟩;exact(P.trans p2).eq rfl
end
structure MM.sm(m:MM):Prop where
 c:m.c.r.sm
 r:m.r.sm
 vl:m.vs.length<=255
 vs:∀v∈m.vs,v.c.r.sm
def ru(m:MM):List Int:=if m.kind=1 then uE m.q else if m.kind=2 then ny m.p else if m.kind=3 then fE m.b.n m.b.id else if m.kind=5 then fE m.b.n m.b.id else if m.kind=4 then fE m.b.n m.b.id++([(m.vs.length:Int)]++(m.vs.map kY).flatten)else if m.kind=6 then fE m.b.n m.b.id++b32 m.s++nA m.c else if m.kind=7 then fE m.b.n m.b.id++b32 m.s else if m.kind=8 then b32 m.s++nA m.c else if m.kind=9 then Fw m.r else if m.kind=10 then[m.peer]++b32 m.seq else[]
def kN(m:MM):List Int:=[m.kind]++ru m
theorem Ku:∀(l:List MV) (ps:List (Value×Value)),zipWith (λx p=>jU x p.1 p.2) l ps=(l.zip ps).map λx=>jU x.1 x.2.1 x.2.2
 | [],_=>by simp
 |_::_,[]=>by simp
 |_::l,_::ps=>by simp[Ku l ps]
section
variable{w:World}{v:Value}{n:Nat}{xs:List Value}
theorem MJ(ho:w.ownsRow 0 5 1 v n xs)(hn:n<=200000000){l:List MV}{vv:Value}(hv:bY w vv l)(zt:l.length<=255)(hs:∀v∈l,v.c.r.sm):ag Tryz.prog 218 #[v,vv,.func (.func 219) #[] #[]] w (λv' w'=>Put w v n xs ([(l.length:Int)]++(l.map kY).flatten) v' w'):=by
 obtain⟨ps,hp,hf,hr⟩:=hv;have hlen:(l.zip ps).length=l.length:=by rw[length_zip,hp,Nat.min_self]
 have hmap:(l.zip ps).map (λx=>kY x.1)=l.map kY:=by
  rw[show(λx:MV×Value×Value=>kY x.1)=kY∘Prod.fst from rfl,<-map_map,map_fst_zip (by omega)]
 have hat:∀x∈l.zip ps,aM w x.1.c.r x.2.1 x.2.2/\x.1∈l:=λx hx=>by
  obtain⟨i,hi⟩:=mem_iff_getElem?.1 hx;rw[getElem?_zip_eq_some]at hi;exact⟨hr i x.1 x.2 hi.1 hi.2,List.mem_of_getElem? hi.1⟩
 rw[Ku,<-hlen]at hf;have h:=Ko (g:=λx=>kY x.1) (L:=10010) (B:=300000000) hf (λx hx w' v' n' xs' k h1 h2=>Ps h1 h2 ((hat x hx).1.kz k) (hs _ (hat x hx).2)) (λx hx=>by
  obtain⟨_,_,_,_,_,_,e1,e2⟩:=(hat x hx).1.sl;exact⟨_,_,_,_,_,_,e1,e2⟩) (λx hx=>Ro (hs _ (hat x hx).2)) (by omega) ho (by omega) (by decide)
 rw[hmap,hlen]at h;exact h
theorem Rp(ho:w.ownsRow 0 5 1 v n xs)(hn:n<=100000000){m:MM}{rv dv vv rv' eU:Value}(hc:aM w m.c.r rv dv)(hv:bY w vv m.vs)(hr:aM w m.r rv' eU)(hs:m.sm)(hk:1<=m.kind/\m.kind<=10):ag Tryz.prog 190 #[v,.agg (dS m rv dv vv rv' eU).toArray] w (λv' w'=>Put w v n xs (kN m) v' w'):=by
 obtain⟨_,_,_,_,_,_,rfl,rfl⟩:=hc.sl;obtain⟨_,_,_,_,_,_,rfl,rfl⟩:=hr.sl;obtain⟨_,_,rfl⟩:=hv.sl;obtain⟨k,q,p,b,s,c,vs,r,peer,seq⟩:=m;dsimp only at hk hc hv hr;have hk:k=1\/k=2\/k=3\/k=4\/k=5\/k=6\/k=7\/k=8\/k=9\/k=10:=by omega
 have P0:=λw1 (g1:GB none w w1)=>Put.pre g1 (Put.nil (jP ho g1))
 rcases hk with rfl|rfl|rfl|rfl|rfl|rfl|rfl|rfl|rfl|rfl
 ·refine ah Tryz.func190 rfl rfl ?_
  refine λw1 b1 m1 g1 l1=>?_
  have P:=P0 w1 g1;refine⟨_,_,m1,_,rfl,_,dE P.row (by simp;omega) _,λv2 w2 p2=>?_⟩;obtain⟨P,m1⟩:=P.more p2 m1 (by decide);refine⟨_,_,m1,_,rfl,?_⟩;refine⟨_,_,m1,q.cells,rfl,rfl,_,Im P.row (by simp;omega) _,λv2 w2 p2=>?_⟩;exact(P.trans p2).eq (by simp[kN,ru])
 ·refine ah Tryz.func190 rfl rfl ?_
  refine λw1 b1 m1 g1 l1=>?_
  have P:=P0 w1 g1;refine⟨_,_,m1,_,rfl,_,dE P.row (by simp;omega) _,λv2 w2 p2=>?_⟩;obtain⟨P,m1⟩:=P.more p2 m1 (by decide);refine⟨_,_,m1,_,rfl,?_⟩;refine⟨_,_,m1,p.cells,rfl,rfl,_,Il P.row (by simp;omega) _,λv2 w2 p2=>?_⟩;exact(P.trans p2).eq (by simp[kN,ru])
 ·refine ah Tryz.func190 rfl rfl ?_
  refine λw1 b1 m1 g1 l1=>?_
  have P:=P0 w1 g1;refine⟨_,_,m1,_,rfl,_,dE P.row (by simp;omega) _,λv2 w2 p2=>?_⟩;obtain⟨P,m1⟩:=P.more p2 m1 (by decide);refine⟨_,_,m1,_,rfl,?_⟩;refine⟨_,_,m1,[.int .u32 b.n,.int .u8 b.id],rfl,rfl,_,qH P.row (by simp;omega) _ _,λv2 w2 p2=>?_⟩;exact(P.trans p2).eq (by simp[kN,ru])
 ·refine ah Tryz.func190 rfl rfl ?_
  refine λw1 b1 m1 g1 l1=>?_
  have P:=P0 w1 g1;refine⟨_,_,m1,_,rfl,_,dE P.row (by simp;omega) _,λv2 w2 p2=>?_⟩;obtain⟨P,m1⟩:=P.more p2 m1 (by decide);refine⟨_,_,m1,_,rfl,?_⟩;refine⟨_,_,m1,[.int .u32 b.n,.int .u8 b.id],rfl,rfl,_,qH P.row (by simp;omega) _ _,λv2 w2 p2=>?_⟩;obtain⟨P,m1⟩:=P.more p2 m1 (by decide);refine⟨_,_,m1,_,rfl,_,MJ P.row (by simp[b32,fE];omega) (hv.kz (P.kz ho)) hs.vl hs.vs,λv2 w2 p2=>?_⟩;exact(P.trans p2).eq (by simp[kN,ru])
 ·refine ah Tryz.func190 rfl rfl ?_
  refine λw1 b1 m1 g1 l1=>?_
  have P:=P0 w1 g1;refine⟨_,_,m1,_,rfl,_,dE P.row (by simp;omega) _,λv2 w2 p2=>?_⟩;obtain⟨P,m1⟩:=P.more p2 m1 (by decide);refine⟨_,_,m1,_,rfl,?_⟩;refine⟨_,_,m1,[.int .u32 b.n,.int .u8 b.id],rfl,rfl,_,qH P.row (by simp;omega) _ _,λv2 w2 p2=>?_⟩;exact(P.trans p2).eq (by simp[kN,ru])
 ·refine ah Tryz.func190 rfl rfl ?_
  refine λw1 b1 m1 g1 l1=>?_
  have P:=P0 w1 g1;refine⟨_,_,m1,_,rfl,_,dE P.row (by simp;omega) _,λv2 w2 p2=>?_⟩;obtain⟨P,m1⟩:=P.more p2 m1 (by decide);refine⟨_,_,m1,_,rfl,?_⟩;refine⟨_,_,m1,[.int .u32 b.n,.int .u8 b.id],rfl,rfl,_,qH P.row (by simp;omega) _ _,λv2 w2 p2=>?_⟩;obtain⟨P,m1⟩:=P.more p2 m1 (by decide);refine⟨_,_,m1,_,rfl,_,jq P.row (by simp[b32,fE];omega) _,λv2 w2 p2=>?_⟩;obtain⟨P,m1⟩:=P.more p2 m1 (by decide);refine⟨_,_,m1,dC c _ _,rfl,rfl,_,Bn P.row (by simp[b32,fE];omega) (hc.kz (P.kz ho)) hs.c,λv2 w2 p2=>?_⟩;exact(P.trans p2).eq (by simp[kN,ru])
 ·refine ah Tryz.func190 rfl rfl ?_
  refine λw1 b1 m1 g1 l1=>?_
  have P:=P0 w1 g1;refine⟨_,_,m1,_,rfl,_,dE P.row (by simp;omega) _,λv2 w2 p2=>?_⟩;obtain⟨P,m1⟩:=P.more p2 m1 (by decide);refine⟨_,_,m1,_,rfl,?_⟩;refine⟨_,_,m1,[.int .u32 b.n,.int .u8 b.id],rfl,rfl,_,qH P.row (by simp;omega) _ _,λv2 w2 p2=>?_⟩;obtain⟨P,m1⟩:=P.more p2 m1 (by decide);refine⟨_,_,m1,_,rfl,_,jq P.row (by simp[b32,fE];omega) _,λv2 w2 p2=>?_⟩;exact(P.trans p2).eq (by simp[kN,ru])
 ·refine ah Tryz.func190 rfl rfl ?_
  refine λw1 b1 m1 g1 l1=>?_
  have P:=P0 w1 g1;refine⟨_,_,m1,_,rfl,_,dE P.row (by simp;omega) _,λv2 w2 p2=>?_⟩;obtain⟨P,m1⟩:=P.more p2 m1 (by decide);refine⟨_,_,m1,_,rfl,?_⟩;refine⟨_,_,m1,_,rfl,_,jq P.row (by simp;omega) _,λv2 w2 p2=>?_⟩;obtain⟨P,m1⟩:=P.more p2 m1 (by decide);refine⟨_,_,m1,dC c _ _,rfl,rfl,_,Bn P.row (by simp[b32];omega) (hc.kz (P.kz ho)) hs.c,λv2 w2 p2=>?_⟩;exact(P.trans p2).eq (by simp[kN,ru])
 ·refine ah Tryz.func190 rfl rfl ?_
  refine λw1 b1 m1 g1 l1=>?_
  have P:=P0 w1 g1;refine⟨_,_,m1,_,rfl,_,dE P.row (by simp;omega) _,λv2 w2 p2=>?_⟩;obtain⟨P,m1⟩:=P.more p2 m1 (by decide);refine⟨_,_,m1,_,rfl,?_⟩;refine⟨_,_,m1,eu r _ _,rfl,rfl,_,Kt P.row (by simp;omega) (hr.kz (P.kz ho)) hs.r,λv2 w2 p2=>?_⟩;exact(P.trans p2).eq (by simp[kN,ru])
 ·refine ah Tryz.func190 rfl rfl ?_
  refine λw1 b1 m1 g1 l1=>?_
  have P:=P0 w1 g1;refine⟨_,_,m1,_,rfl,_,dE P.row (by simp;omega) _,λv2 w2 p2=>?_⟩;obtain⟨P,m1⟩:=P.more p2 m1 (by decide);refine⟨_,_,m1,_,rfl,?_⟩;refine⟨_,_,m1,_,rfl,_,dE P.row (by simp;omega) _,λv2 w2 p2=>?_⟩;obtain⟨P,m1⟩:=P.more p2 m1 (by decide);refine⟨_,_,m1,_,rfl,_,jq P.row (by simp;omega) _,λv2 w2 p2=>?_⟩;exact(P.trans p2).eq (by simp[kN,ru])
end
structure CS(P:Program)[ko P](n:Nat)(c:Code)(K:Ex->Sg->World->Prop)(s:Sg)(w:World):Prop where
 go:∀{main:Bool} {D:World->World->Array Event->Prop} {X:Goroutine->World->Prop} (_:SX P main D X) (b:Frame) (cs:List Frame),b.kind≠.early->∀(k:List Item),(∀e s w,K e s w->Aft X b cs n k e s w)->∀a,Fit n s a->X (G (b.at a (.code c::k)) cs) w
section
variable{P:Program}[ko P]{n:Nat}{c x y:Code}{K K':Ex->Sg->World->Prop}{s q:Sg}{w:World}
theorem CS.of(E:mH P)(hm:P.follows .mixedOrders=true)(h:pY E n c K s w):CS P n c K s w:=⟨λhX _b _cs hk k hK a hf=>DX hX hk hm c K k hK s w a hf h⟩
theorem CS.e[ko Tryz.prog](h:pY fD n c K s w):CS Tryz.prog n c K s w:=CS.of fD mixed h
theorem CS.sub(h:CS P n c K q w)(hs:iD q s):CS P n c K s w:=⟨λhX b cs hk k hK a hf=>h.go hX b cs hk k hK a (hf.sub hs)⟩
theorem CS.mono(h:CS P n c K s w)(hk:∀e s w,K e s w->K' e s w):CS P n c K' s w:=⟨λhX b cs hb k hK a hf=>h.go hX b cs hb k (λe s w he=>hK e s w (hk e s w he)) a hf⟩
theorem CS.seq(h:CS P n x (λe s w=>Rc (CS P n y K s w) (K e s w) e) s w):CS P n (.seq x y) K s w:=⟨λhX b cs hk k hK a hf=>hX.c.seq (h.go hX b cs hk (.code y::k) (λe s w he a hf=>by
 cases e with
 |n=>exact(show CS P n y K s w from he).go hX b cs hk k hK a hf
 |x j=>exact hK (.x j) s w he a hf
 |r=>exact hK .r s w he a hf) a hf)⟩
theorem CS.block{id:Nat}(h:CS P n c (λe s w=>K (Z9 id e) s w) s w):CS P n (.block id c) K s w:=⟨λhX b cs hk k hK a hf=>hX.c.block (h.go hX b cs hk (.inBlock id::k) (λe s w he a hf=>by
 cases e with
 |n=>exact hX.c.inBlock (hK .n s w he a hf)
 |x j =>
  have he:K (bif Nat.beq id j then .n else .x j) s w:=he;cases hb:Nat.beq id j with
  |true =>
   rw[hb]at he;have:=Nat.eq_of_beq_eq_true hb;subst this;exact⟨k,by simp[exitTo],hK .n s w he a hf⟩
  |false =>
   rw[hb]at he;obtain⟨k',h1,h2⟩:=hK (.x j) s w he a hf;have hne:¬id=j:=λe=>by subst e;rw[Nat.beq_refl]at hb;cases hb
   exact⟨k',by unfold exitTo;rw[if_neg (by simpa using hne)];exact h1,h2⟩
 |r=>exact hK .r s w he a hf) a hf)⟩
theorem CS.loop(I:Nat->Sg->World->Prop)(h0:∃m q,I m q w/\iD q s)(h:∀m s w,I m s w->CS P n c (λe s w=>Rc (∃m' q,I m' q w/\iD q s/\m'<m) (K e s w) e) s w):CS P n (.loop c) K s w:=by
 refine⟨λ{main D X} hX b cs hk k hK a hf=>?_⟩;obtain⟨m,q,hI,hq⟩:=h0;refine hX.c.loop ?_;suffices hh:∀N m q w a,m<=N->I m q w->Fit n q a->X (G (b.at a (.code c::.inLoop c::k)) cs) w from hh m m q w a (Nat.le_refl _) hI (hf.sub hq)
 intro N;induction N with
 |zero =>
  intro m q w a hmN hI hf;refine(h m q w hI).go hX b cs hk (.inLoop c::k) (λe s w he a hf=>?_) a hf;cases e with
  |n=>obtain⟨m',q',_,_,h3⟩:=(show ∃m' q,I m' q w/\iD q s/\m'<m from he);omega
  |x j=>exact hK (.x j) s w he a hf
  |r=>exact hK .r s w he a hf
 |succ N ihN =>
  intro m q w a hmN hI hf;refine(h m q w hI).go hX b cs hk (.inLoop c::k) (λe s w he a hf=>?_) a hf;cases e with
  |n=>obtain⟨m',q',h1,h2,h3⟩:=(show ∃m' q,I m' q w/\iD q s/\m'<m from he);exact hX.c.inLoop (ihN m' q' w a (by omega) h1 (hf.sub h2))
  |x j=>exact hK (.x j) s w he a hf
  |r=>exact hK .r s w he a hf
def aar(Q:Sg->World->Prop)(e:Ex)(s:Sg)(w:World):Prop:=match e with
 |.n=>∃q,iD q s/\Q q w
 |_=>False
theorem CS.piece{Q:Sg->World->Prop}(h:CS P n x (aar Q) s w)(hy:∀q w,Q q w->CS P n y K q w):CS P n (.seq x y) K s w:=CS.seq (h.mono λe s w he=>by
 cases e with
 |n=>obtain⟨q,h1,h2⟩:=(show ∃q,iD q s/\Q q w from he);exact(hy q w h2).sub h1
 |x j=>exact he.elim
 |r=>exact he.elim)
theorem CS.cond{o:Operand}(t:Bool)(he:ev s o=some (.bool t))(h:CS P n (bif t then x else y) K s w):CS P n (.cond o x y) K s w:=⟨λhX b cs hk k hK a hf=>by
 refine hX.c.cond t (hf.ev _ _ he) ?_;cases t
 ·exact h.go hX b cs hk k hK a hf
 ·exact h.go hX b cs hk k hK a hf⟩
def Out(Qn:Sg->World->Prop)(Qx:Nat->Sg->World->Prop)(Qr:Sg->World->Prop)(e:Ex)(s:Sg)(w:World):Prop:=match e with
 |.n=>∃q,iD q s/\Qn q w
 |.x j=>∃q,iD q s/\Qx j q w
 |.r=>∃q,iD q s/\Qr q w
theorem CS.cut{Qn:Sg->World->Prop}{Qx:Nat->Sg->World->Prop}{Qr:Sg->World->Prop}(h:CS P n x (Out Qn Qx Qr) s w)(hn:∀q w,Qn q w->CS P n y K q w)(hx:∀j q s w,Qx j q w->iD q s->K (.x j) s w)(hr:∀q s w,Qr q w->iD q s->K .r s w):CS P n (.seq x y) K s w:=CS.seq (h.mono λe s w he=>by
 cases e with
 |n=>obtain⟨q,h1,h2⟩:=(show ∃q,iD q s/\Qn q w from he);exact(hn q w h2).sub h1
 |x j=>obtain⟨q,h1,h2⟩:=(show ∃q,iD q s/\Qx j q w from he);exact hx j q s w h2 h1
 |r=>obtain⟨q,h1,h2⟩:=(show ∃q,iD q s/\Qr q w from he);exact hr q s w h2 h1)
theorem Cr{E:mH P}:∀{rs:List ResultVar} {L:List Value->Prop},iD q s->yz E w q L rs->yz E w s L rs
 | [],_,_,h=>h
 |.tmp t::r,L,hs,h=>by
  unfold yz at h |-;cases hq:at? q t with
  |none=>rw[hq]at h;exact h.elim
  |some v=>rw[hq]at h;rw[hs.get hq];exact Cr hs h
 |.cell p t::r,L,hs,h=>by
  unfold yz at h |-;cases hq:at? q p with
  |none=>rw[hq]at h;exact h.elim
  |some v =>
   rw[hq]at h;rw[hs.get hq];dsimp only at h |-;unfold yw at h |-;split at h
   ·split at h
    ·rename_i y hy
     obtain⟨xs,ty,h1,h2⟩:=h;refine⟨xs,ty,h1,?_⟩;cases hS:kI y with
     |true =>
      rw[hS]at h2;dsimp only[iB]at h2 |-;cases h0:Nat.beq (bD E.T t) 0 with
      |true=>rw[h0]at h2;exact(show False from h2).elim
      |false=>rw[h0]at h2;dsimp only at h2 |-;obtain⟨c,a1,a2,a3⟩:=h2;exact⟨c,a1,a2,Cr hs a3⟩
     |false=>rw[hS]at h2;dsimp only[iB]at h2 |-;obtain⟨v,a1,a2⟩:=h2;exact⟨v,a1,Cr hs a2⟩
    ·exact h.elim
   ·exact h.elim
theorem wo{E:mH P}{rs:List ResultVar}{Post:Value->World->Prop}(hs:iD q s)(h:yz E w q (GH Post w) rs):zg E rs Post .r s w:=Cr hs h
end
theorem Pt{P:Program}[ko P](E:mH P){f:FuncId}{fn:Func}{c:Code}{args:List Value}{w:World}{Post:Value->World->Prop}(hf:P.funcs[f]? = some fn)(hb:fn.body=some c)(hn:Nat.ble args.length fn.ntmps=true)(h:CS P fn.ntmps c (zg E fn.results.toList Post) (uB args 0) w){main:Bool}{D:World->World->Array Event->Prop}{X:Goroutine->World->Prop}(hX:SX P main D X){cs:List Frame}(hk:∀fr v w',fr.fn=f->fr.leaving P w' (.returned v)->Post v w'->X (G fr cs) w'):X (G (Frame.enter P f args.toArray .normal) cs) w:=by
 rw[enter_at (P:=P) args.toArray hf hb];have hle:=Nat.le_of_ble_eq_true hn;refine h.go hX _ cs (by unfold Go.Conc.base;exact nofun) [] ?_ _ ?_
 ·intro e s w he a hfit
  have fin:∀todo,yz E w s (GH Post w) fn.results.toList->X (G { (Go.Conc.base f).at a todo with mode:=.returning } cs) w:=by
   intro todo hr;obtain⟨l,h1,h2⟩:=Re _ _ a.tmps hfit.get hr;have hres:(results fn a.tmps).run P w=.ok (if h:l.toArray.size=1 then l.toArray[0]else .tuple l.toArray) w:=by
    have e:results fn a.tmps=(do let vs <- fn.results.mapM (uC a.tmps);pure (if h:vs.size=1 then vs[0]else .tuple vs)):=by
     unfold results;congr 2
    have e2:(fn.results.mapM (uC a.tmps)).run P w=.ok l.toArray w:=by
     rw[show fn.results.mapM (uC a.tmps)=toArray <$> (fn.results.toList.mapM (uC a.tmps))from Array.mapM_eq_mapM_toList ..];show Sem.run P ((fn.results.toList.mapM (uC a.tmps)) >>= λl=>pure l.toArray) w=_;rw[Sem.run_bind,h2];rfl
    rw[e,Sem.run_bind,e2];rfl
   refine hk _ (if h:l.toArray.size=1 then l.toArray[0]else .tuple l.toArray) w rfl ⟨rfl,hfit.defers,rfl,fn,hf,hres⟩ ?_;unfold GH at h1;split at h1
   ·exact h1
   ·rename_i hne
    rw[dif_neg]
    ·exact h1
    ·intro h1
     simp only[size_toArray]at h1;obtain⟨v,rfl⟩:=length_eq_one_iff.1 h1;exact hne v rfl
  cases e with
  |n=>exact hX.c.fin (fin [] he)
  |x j=>exact he.elim
  |r=>exact λtodo=>fin todo he
 ·refine⟨rfl,?_,λi v hi=>?_⟩
  ·simp;omega
  ·obtain⟨d,h1,h2⟩:=zh hi
   rw[Nat.zero_add]at h1;subst h1;have hlt:i<args.length:=(List.getElem?_eq_some_iff.1 h2).1;rw[Array.getD_eq_getD_getElem?];show(((args.toArray++Array.replicate _ undef)[i]?).getD undef)=v;rw[Array.getElem?_append_left (by simpa using hlt)];simp[h2]
theorem wu{P:Program}(E:mH P){f:FuncId}{fn:Func}{c:Code}{args:List Value}{w:World}{Post:Value->World->Prop}(hf:P.funcs[f]? = some fn)(hb:fn.body=some c)(hn:Nat.ble args.length fn.ntmps=true)(h:CS P fn.ntmps c (zg E fn.results.toList Post) (uB args 0) w):ag P f args.toArray w Post :=
 λ_ _ _ _ hX hk=>Pt E hf hb hn h ⟨hX,trivial⟩ hk
def gN(A:aO)(R:MR)(c:MC):MR:=if 60<=R.sc.next\/lK R.props c=true\/lK R.known c=true then R else iF A { R with sc:={ R.sc with next:=R.sc.next+1 } } R.sc.next c
section
variable{A:aO}(HA:bH A)
include HA
theorem Ok.offer{R:MR}(ho:Ok A R){c:MC}(hgc:A.gc c):Ok A (gN A R c)/\(gN A R c).out.length<=R.out.length+315/\(gN A R c).sc.i=R.sc.i/\(gN A R c).sc.sz=R.sc.sz:=by
 unfold gN;split
 ·exact⟨ho,by omega,rfl,rfl⟩
 ·rename_i h
  have uL:R.sc.next<60:=by omega
  have o2:Ok A { R with sc:={ R.sc with next:=R.sc.next+1 } }:=⟨ho.sz,ho.i,ho.st,ho.kn,ho.pp,ho.vt,ho.wv,ho.mt,ho.ac,ho.pr,ho.lg,ho.lc,by show R.sc.next+1<=60;omega,ho.sn⟩;exact o2.prop HA uL hgc
variable{Λ:bU}{w:World}{br:Nat}{R:MR}
theorem Ec(h:Wk Λ br R w)(ho:Ok A R){c:MC}(hgc:A.gc c){cv:Value}(hc:kr w cv c)(hb:R.out.length<=870000):ag Tryz.prog 164 #[Ptt br,cv] w (λv w'=>v=.tuple #[]/\Wk Λ br (gN A R c) w'/\Kz w w'):=by
 obtain⟨rv,dv,rfl,hr⟩:=hc;refine ah Tryz.func164 rfl rfl ?_;intro w1 b1 m1 g1 l1;obtain⟨a,h⟩:=h;have h1:=h.box g1 m1 l1;have u1:=h.q9 l1;have hnx:=ho.nx;refine⟨by kernel_rfl,_,_,h1.ri.mem,_,rfl,aj (λd=>?_) (λd=>?_)⟩
 ·have d1:R.sc.next<60:=by simp at d;omega
  have hc1:kr w1 (.agg (dC c rv dv).toArray) c:=⟨_,_,rfl,hr.kz g1.kz⟩;refine⟨_,_,h1.ri.mem,_,rfl,_,_,m1,dC c rv dv,rfl,rfl,_,Ea h1.ri.pp (λk d h=>(ho.pp k d h).2) hc1,?_⟩;rintro _ w2 ⟨rfl,g2⟩;have h2:=h1.au g2;have m2:=g2.get m1 nofun;refine⟨⟨m2,h2.ri.mem,h2.ri.mem,trivial⟩,aj (λe=>?_) (λe=>?_)⟩
  ·have e1:lK R.props c=false:=eq_of_beq e
   refine⟨⟨_,_,h2.ri.mem,_,rfl,_,_,m2,dC c rv dv,rfl,rfl,_,Ea h2.ri.kn (λk d h=>(ho.kn k d h).2) (hc1.kz g2.kz),?_⟩,⟨_,_,m2,dC c rv dv,rfl,rfl,_,_,h2.ri.mem,_,rfl,_,Ea h2.ri.kn (λk d h=>(ho.kn k d h).2) (hc1.kz g2.kz),?_⟩⟩;all_goals
    rintro _ w3 ⟨rfl,g3⟩;have h3:=h2.au g3;have m3:=g3.get m2 nofun;have kk:=((g1.trans g2).trans g3).kz;refine aj (λe'=>?_) (λe'=>?_)
    ·have e2:lK R.known c=true:=e'
     have em:gN A R c=R:=if_pos (.inr (.inr e2));rw[em];exact⟨rfl,Wk.drop ⟨_,h3⟩ u1,kk⟩
    ·have e2:lK R.known c=false:=e'
     have em:gN A R c=iF A { R with sc:={ R.sc with next:=R.sc.next+1 } } R.sc.next c:=if_neg (by rw[e1,e2];simp;omega);rw[em];refine⟨_,_,h3.ri.mem,_,rfl,_,_,h3.ri.mem,_,rfl,by omega,_,_,_,h3.ri.mem,rfl,rfl,λw4 m4 g4=>?_⟩;have h4:=h3.cell (s':={ R.sc with next:=R.sc.next+1 }) m4 g4;have k4:=h3.ri.kz h3.ri.jo g4;have m5:=(h4.pr b1 _ (bU.yB _ _ _)).1;have o4:Ok A { R with sc:={ R.sc with next:=R.sc.next+1 } }:=⟨ho.sz,ho.i,ho.st,ho.kn,ho.pp,ho.vt,ho.wv,ho.mt,ho.ac,ho.pr,ho.lg,ho.lc,by show R.sc.next+1<=60;omega,ho.sn⟩;have hc4:kr w4 (.agg (dC c rv dv).toArray) c:=⟨_,_,rfl,(hr.kz kk).kz k4⟩;refine⟨_,_,m5,dC c rv dv,rfl,rfl,_,GK HA (Wk.drop ⟨_,h4⟩ u1) o4 d1 hgc hc4 hb,?_⟩;rintro _ w5 ⟨rfl,h5,k5⟩;exact⟨rfl,h5,(kk.trans k4).trans k5⟩
  ·have e1:lK R.props c=true:=by cases h:lK R.props c;rw[h]at e;cases e;rfl
   have em:gN A R c=R:=if_pos (.inr (.inl e1));rw[em];exact⟨⟨rfl,Wk.drop ⟨_,h2⟩ u1,(g1.trans g2).kz⟩,⟨rfl,Wk.drop ⟨_,h2⟩ u1,(g1.trans g2).kz⟩⟩
 ·have d1:60<=R.sc.next:=by simp at d;omega
  have em:gN A R c=R:=if_pos (.inl d1);rw[em];exact⟨rfl,Wk.drop ⟨_,h1⟩ u1,g1.kz⟩
end
end
