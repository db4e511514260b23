/- What is written (3): lists. -/
import Derived.Test.YtignemioillaiabGreatG24
namespace Go.Proofs.YtignemioillaiabGreat
set_option maxHeartbeats 8000000
set_option maxRecDepth 100000
section
open Go Go.Conc
theorem Put.kz {w w1:World} {v v1:Value} {n:Nat} {xs:List Value} {a:List Int} (h:Put w v n xs a v1 w1) (ho:w.ownsRow 0 5 1 v n xs):Kz w w1:=fun t ht b c hb=>h.get ho hb fun e=>by subst e;revert ht;decide
theorem oP {α:Type} {g:α→List Int} {L:Nat}:∀ {l:List α},(∀ x∈l,(g x).length≤L)→(l.map g).flatten.length≤l.length*L
 | [],_=>by simp
 | x::l,h=>by
  have h1:=h x List.mem_cons_self;have h2:=oP (l:=l) fun y hy=>h y (List.mem_cons_of_mem _ hy)
  simp only [List.map_cons,List.flatten_cons,List.length_append,List.length_cons,Nat.succ_mul];omega
theorem zZ {α β:Type} (g:α→List β) {l:List α} {k:Nat} {x:α} (h:l[k]? = some x):((l.take (k+1)).map g).flatten=((l.take k).map g).flatten++g x:=by
 rw [List.take_add_one,h];simp
section
variable {w:World} {v lv:Value} {n B L:Nat} {xs:List Value}
theorem KC {els:List (Row)} {g:Row→List Int} (hl:Fz w 139 2 lv els.length (els.map fun x=>x.cells).flatten) (hc:∀ x∈els,∀ (w':World) (v':Value) (n':Nat) (xs':List Value),Kz w w'→w'.ownsRow 0 5 1 v' n' xs'→n'≤B→af Tryz.prog 177 #[v',.agg (x.cells).toArray] w' (fun v'' w''=>Put w' v' n' xs' (g x) v'' w'')) (hg:∀ x∈els,(g x).length≤L) (yg:els.length≤255) (ho:w.ownsRow 0 5 1 v n xs) (hn:n+1+255*L≤B) (hB:B≤800000000):af Tryz.prog 176 #[v,lv,.func (.func 177) #[] #[]] w (fun v' w'=>Put w v n xs ([(els.length:Int)]++(els.map g).flatten) v' w'):=by
 obtain ⟨a,c,rfl,hcap,hlen,hv⟩:=hl;refine ah au mixed Tryz.func176 rfl rfl ?_;refine .inl ⟨by omega,?_⟩;refine ⟨_,dx ho (by omega) _,fun v1 w1 P=>?_⟩;obtain ⟨a1,c1,rfl⟩:=ag P.row;refine ⟨fun m s wk=>∃ (k:Nat) (vk:Value),m=els.length - k∧k≤els.length∧s=[(0,vk),(2,.func (.func 177) #[] #[]),(14,.slice a els.length c),(15,.int .i64 els.length),(16,.int .i64 k)]∧Put w v n xs ([(els.length:Int)]++((els.take k).map g).flatten) vk wk,⟨_,_,⟨0,_,rfl,Nat.zero_le _,rfl,P.eq (by simp)⟩,rfl,rfl,rfl,rfl,rfl,trivial⟩,?_⟩;clear P;rintro m s wk ⟨k,vk,rfl,hk,rfl,P⟩;obtain ⟨ak,ck,rfl⟩:=ag P.row;refine aj (fun d=>?_) (fun d=>?_)
 ·have d1:k<els.length:=by have:=of_decide_eq_true d;omega
  obtain ⟨x,hx⟩:∃ x,els[k]? = some x:=⟨els[k],by simp [d1]⟩;have hm:=List.mem_of_getElem? hx;rcases hv with ⟨_,h0⟩ | ⟨b,off,cs,rfl,hb,hcut⟩
  ·omega
  have hel:aO cs.toList (off+k*2) 2=x.cells:=(Fz.elem hcut d1).trans (by rw [← List.flatMap_def];exact jy (f:=fun x:Row=>x.cells) (fun _=>rfl) els k x hx);have hb':=P.kz ho 139 (by decide) b cs hb;refine ⟨⟨by omega,by omega⟩,_,_,hb',x.cells,by show aO cs.toList (off+(k:Int).toNat*2) 2=_;rw [Int.toNat_natCast];exact hel,rfl,fun w2 b2 m2 g2 l2=>⟨_,_,_,m2,rfl,rfl,fun w3 m3 g3=>?_⟩⟩;have g23:=g2.new g3 l2;have hlk:=oP (l:=els.take k) (L:=L) fun y hy=>hg y (List.mem_of_mem_take hy)
  have hL:(els.take k).length*L≤255*L:=Nat.mul_le_mul_right _ (by rw [List.length_take];omega);refine ⟨_,_,m3,x.cells,rfl,rfl,_,hc x hm w3 _ _ _ ((P.kz ho).trans g23.kz) (ji P.row g23) (by rw [List.length_append,List.length_singleton];omega),fun v4 w4 p4=>?_⟩;obtain ⟨a4,c4,rfl⟩:=ag p4.row;exact ⟨⟨by omega,by omega⟩,_,_,⟨k+1,_,rfl,by omega,rfl,(P.trans (p4.pre g23)).eq (by rw [zZ g hx];simp)⟩,⟨rfl,rfl,rfl,rfl,rfl,trivial⟩,by omega⟩
 ·have d1:k=els.length:=by have:=of_decide_eq_false d;omega
  exact P.eq (by rw [d1,List.take_length])
theorem KD {els:List (aD)} {g:aD→List Int} (hl:Fz w 70 7 lv els.length (els.map fun x=>x.cells).flatten) (hc:∀ x∈els,∀ (w':World) (v':Value) (n':Nat) (xs':List Value),Kz w w'→w'.ownsRow 0 5 1 v' n' xs'→n'≤B→af Tryz.prog 121 #[v',.agg (x.cells).toArray] w' (fun v'' w''=>Put w' v' n' xs' (g x) v'' w'')) (hg:∀ x∈els,(g x).length≤L) (yg:els.length≤255) (ho:w.ownsRow 0 5 1 v n xs) (hn:n+1+255*L≤B) (hB:B≤800000000):af Tryz.prog 178 #[v,lv,.func (.func 121) #[] #[]] w (fun v' w'=>Put w v n xs ([(els.length:Int)]++(els.map g).flatten) v' w'):=by
 obtain ⟨a,c,rfl,hcap,hlen,hv⟩:=hl;refine ah au mixed Tryz.func178 rfl rfl ?_;refine .inl ⟨by omega,?_⟩;refine ⟨_,dx ho (by omega) _,fun v1 w1 P=>?_⟩;obtain ⟨a1,c1,rfl⟩:=ag P.row;refine ⟨fun m s wk=>∃ (k:Nat) (vk:Value),m=els.length - k∧k≤els.length∧s=[(0,vk),(2,.func (.func 121) #[] #[]),(14,.slice a els.length c),(15,.int .i64 els.length),(16,.int .i64 k)]∧Put w v n xs ([(els.length:Int)]++((els.take k).map g).flatten) vk wk,⟨_,_,⟨0,_,rfl,Nat.zero_le _,rfl,P.eq (by simp)⟩,rfl,rfl,rfl,rfl,rfl,trivial⟩,?_⟩;clear P;rintro m s wk ⟨k,vk,rfl,hk,rfl,P⟩;obtain ⟨ak,ck,rfl⟩:=ag P.row;refine aj (fun d=>?_) (fun d=>?_)
 ·have d1:k<els.length:=by have:=of_decide_eq_true d;omega
  obtain ⟨x,hx⟩:∃ x,els[k]? = some x:=⟨els[k],by simp [d1]⟩;have hm:=List.mem_of_getElem? hx;rcases hv with ⟨_,h0⟩ | ⟨b,off,cs,rfl,hb,hcut⟩
  ·omega
  have hel:aO cs.toList (off+k*7) 7=x.cells:=(Fz.elem hcut d1).trans (by rw [← List.flatMap_def];exact jy (f:=fun x:aD=>x.cells) (fun _=>rfl) els k x hx);have hb':=P.kz ho 70 (by decide) b cs hb;refine ⟨⟨by omega,by omega⟩,_,_,hb',x.cells,by show aO cs.toList (off+(k:Int).toNat*7) 7=_;rw [Int.toNat_natCast];exact hel,rfl,fun w2 b2 m2 g2 l2=>⟨_,_,_,m2,rfl,rfl,fun w3 m3 g3=>?_⟩⟩;have g23:=g2.new g3 l2;have hlk:=oP (l:=els.take k) (L:=L) fun y hy=>hg y (List.mem_of_mem_take hy)
  have hL:(els.take k).length*L≤255*L:=Nat.mul_le_mul_right _ (by rw [List.length_take];omega);refine ⟨_,_,m3,x.cells,rfl,rfl,_,hc x hm w3 _ _ _ ((P.kz ho).trans g23.kz) (ji P.row g23) (by rw [List.length_append,List.length_singleton];omega),fun v4 w4 p4=>?_⟩;obtain ⟨a4,c4,rfl⟩:=ag p4.row;exact ⟨⟨by omega,by omega⟩,_,_,⟨k+1,_,rfl,by omega,rfl,(P.trans (p4.pre g23)).eq (by rw [zZ g hx];simp)⟩,⟨rfl,rfl,rfl,rfl,rfl,trivial⟩,by omega⟩
 ·have d1:k=els.length:=by have:=of_decide_eq_false d;omega
  exact P.eq (by rw [d1,List.take_length])
theorem I5 {els:List (MV×Value×Value)} {g:MV×Value×Value→List Int} (hl:Fz w 178 20 lv els.length (els.map fun x=>jm x.1 x.2.1 x.2.2).flatten) (hc:∀ x∈els,∀ (w':World) (v':Value) (n':Nat) (xs':List Value),Kz w w'→w'.ownsRow 0 5 1 v' n' xs'→n'≤B→af Tryz.prog 124 #[v',.agg (jm x.1 x.2.1 x.2.2).toArray] w' (fun v'' w''=>Put w' v' n' xs' (g x) v'' w'')) (hs:∀ x∈els,∃ a n c a' n' c',x.2.1=.slice a n c∧x.2.2=.slice a' n' c') (hg:∀ x∈els,(g x).length≤L) (yg:els.length≤255) (ho:w.ownsRow 0 5 1 v n xs) (hn:n+1+255*L≤B) (hB:B≤800000000):af Tryz.prog 123 #[v,lv,.func (.func 124) #[] #[]] w (fun v' w'=>Put w v n xs ([(els.length:Int)]++(els.map g).flatten) v' w'):=by
 obtain ⟨a,c,rfl,hcap,hlen,hv⟩:=hl;refine ah au mixed Tryz.func123 rfl rfl ?_;refine .inl ⟨by omega,?_⟩;refine ⟨_,dx ho (by omega) _,fun v1 w1 P=>?_⟩;obtain ⟨a1,c1,rfl⟩:=ag P.row;refine ⟨fun m s wk=>∃ (k:Nat) (vk:Value),m=els.length - k∧k≤els.length∧s=[(0,vk),(2,.func (.func 124) #[] #[]),(14,.slice a els.length c),(15,.int .i64 els.length),(16,.int .i64 k)]∧Put w v n xs ([(els.length:Int)]++((els.take k).map g).flatten) vk wk,⟨_,_,⟨0,_,rfl,Nat.zero_le _,rfl,P.eq (by simp)⟩,rfl,rfl,rfl,rfl,rfl,trivial⟩,?_⟩;clear P;rintro m s wk ⟨k,vk,rfl,hk,rfl,P⟩;obtain ⟨ak,ck,rfl⟩:=ag P.row;refine aj (fun d=>?_) (fun d=>?_)
 ·have d1:k<els.length:=by have:=of_decide_eq_true d;omega
  obtain ⟨x,hx⟩:∃ x,els[k]? = some x:=⟨els[k],by simp [d1]⟩;have hm:=List.mem_of_getElem? hx;obtain ⟨x1,x2,x3⟩:=x;obtain ⟨_,_,_,_,_,_,e1,e2⟩:=hs _ hm;dsimp only at e1 e2;subst e1;subst e2;have hc0:=hc _ hm;rcases hv with ⟨_,h0⟩ | ⟨b,off,cs,rfl,hb,hcut⟩
  ·omega
  have hel:aO cs.toList (off+k*20) 20=jm x1 (.slice _ _ _) (.slice _ _ _):=(Fz.elem hcut d1).trans (by rw [← List.flatMap_def];exact jy (f:=fun x:MV×Value×Value=>jm x.1 x.2.1 x.2.2) (fun _=>rfl) els k _ hx);have hb':=P.kz ho 178 (by decide) b cs hb;refine ⟨⟨by omega,by omega⟩,_,_,hb',jm x1 (.slice _ _ _) (.slice _ _ _),by show aO cs.toList (off+(k:Int).toNat*20) 20=_;rw [Int.toNat_natCast];exact hel,rfl,fun w2 b2 m2 g2 l2=>⟨_,_,_,m2,rfl,rfl,fun w3 m3 g3=>?_⟩⟩;have g23:=g2.new g3 l2;have hlk:=oP (l:=els.take k) (L:=L) fun y hy=>hg y (List.mem_of_mem_take hy)
  have hL:(els.take k).length*L≤255*L:=Nat.mul_le_mul_right _ (by rw [List.length_take];omega);refine ⟨_,_,m3,jm x1 (.slice _ _ _) (.slice _ _ _),rfl,rfl,_,hc0 w3 _ _ _ ((P.kz ho).trans g23.kz) (ji P.row g23) (by rw [List.length_append,List.length_singleton];omega),fun v4 w4 p4=>?_⟩;obtain ⟨a4,c4,rfl⟩:=ag p4.row;exact ⟨⟨by omega,by omega⟩,_,_,⟨k+1,_,rfl,by omega,rfl,(P.trans (p4.pre g23)).eq (by rw [zZ g hx];simp)⟩,⟨rfl,rfl,rfl,rfl,rfl,trivial⟩,by omega⟩
 ·have d1:k=els.length:=by have:=of_decide_eq_false d;omega
  exact P.eq (by rw [d1,List.take_length])
end
def Rg.sm (r:Rg):Prop:=r.rows.length≤255∧r.bz.length≤255
def Eg (r:Rg):List Int:=[r.src]++[r.dst]++b32 r.seq++b64 r.lo++b64 r.hi++([(r.rows.length:Int)]++(r.rows.map qY).flatten)++([(r.bz.length:Int)]++(r.bz.map mU).flatten)
def mf (c:MC):List Int:=[c.kind]++(if c.kind=1 then uO c.q else if c.kind=2 then Eg c.r else if c.kind=3 then [c.peer]++b32 c.seq else [])
def kD (v:MV):List Int:=b32 v.slot++eB v.b.n v.b.id++mf v.c
theorem CG (x:Row):(qY x).length=16:=by simp [qY,b64,b32]
theorem I6 (p:aD):(mU p).length≤23:=by
 unfold mU;split
 ·split <;> simp [A9,b64,b32]
 ·split <;> simp [b64,b32]
theorem I7 (q:bH):(uO q).length≤23:=by
 unfold uO;split
 ·simp [b64,b32]
 ·split <;> simp [b64,b32]
theorem V3 {r:Rg} (h:r.sm):(Eg r).length≤10000:=by
 have h1:=oP (g:=qY) (L:=16) (l:=r.rows) fun x _=>Nat.le_of_eq (CG x)
 have h2:=oP (g:=mU) (L:=23) (l:=r.bz) fun x _=>I6 x
 obtain ⟨h3,h4⟩:=h;unfold Eg;generalize (r.rows.map qY).flatten=a at *;generalize (r.bz.map mU).flatten=b at *;simp [b64,b32];omega
theorem Su {c:MC} (h:c.r.sm):(mf c).length≤10001:=by
 unfold mf;have:=V3 h;have:=I7 c.q;split
 ·simp;omega
 ·split
  ·simp;omega
  ·split <;> simp [b32]
theorem PK {v:MV} (h:v.c.r.sm):(kD v).length≤10010:=by
 unfold kD;have:=Su h;simp [b32,eB];omega
section
variable {w:World} {v:Value} {n:Nat} {xs:List Value}
theorem I8 (ho:w.ownsRow 0 5 1 v n xs) (hn:n≤500000000) {r:Rg} {rv dv:Value} (hr:aP w r rv dv) (hs:r.sm):af Tryz.prog 127 #[v,.agg (dN r rv dv).toArray] w (fun v' w'=>Put w v n xs (Eg r) v' w'):=by
 obtain ⟨ra,rn,rc,da,dn,dc,rfl,rfl⟩:=hr.sl;refine ah au mixed Tryz.func127 rfl rfl ?_;refine fun w1 b1 m1 g1 l1=>?_
 have P:=Put.pre g1 (Put.nil (ji ho g1));refine ⟨_,_,m1,_,rfl,_,dx P.row (by simp;omega) _,fun v2 w2 p2=>?_⟩;obtain ⟨P,m1⟩:=P.more p2 m1 (by decide);refine ⟨_,_,m1,_,rfl,_,dx P.row (by simp;omega) _,fun v2 w2 p2=>?_⟩;obtain ⟨P,m1⟩:=P.more p2 m1 (by decide);refine ⟨_,_,m1,_,rfl,_,iU P.row (by simp;omega) _,fun v2 w2 p2=>?_⟩;obtain ⟨P,m1⟩:=P.more p2 m1 (by decide);refine ⟨_,_,m1,_,rfl,_,kY P.row (by simp [b32];omega) _,fun v2 w2 p2=>?_⟩;obtain ⟨P,m1⟩:=P.more p2 m1 (by decide);refine ⟨_,_,m1,_,rfl,_,kY P.row (by simp [b32,b64];omega) _,fun v2 w2 p2=>?_⟩;obtain ⟨P,m1⟩:=P.more p2 m1 (by decide);have hr':=hr.kz (P.kz ho);refine ⟨_,_,m1,_,rfl,_,KC (g:=qY) (L:=16) (B:=600000000) hr'.1 (fun x _ w' v' n' xs' _ h1 h2=>PI h1 (by omega) x) (fun x _=>Nat.le_of_eq (CG x)) hs.1 P.row (by simp [b32,b64];omega) (by decide),fun v2 w2 p2=>?_⟩;obtain ⟨P,m1⟩:=P.more p2 m1 (by decide);have hr':=hr.kz (P.kz ho);have hl:=oP (g:=qY) (L:=16) (l:=r.rows) fun x _=>Nat.le_of_eq (CG x)
 have hl1:=hs.1;refine ⟨_,_,m1,_,rfl,_,KD (g:=mU) (L:=23) (B:=600000000) hr'.2 (fun x _ w' v' n' xs' _ h1 h2=>F7 h1 (by omega) x) (fun x _=>I6 x) hs.2 P.row (by generalize (r.rows.map qY).flatten=a at *;simp [b32,b64];omega) (by decide),fun v2 w2 p2=>?_⟩;exact (P.trans p2).eq rfl
theorem Aa (ho:w.ownsRow 0 5 1 v n xs) (hn:n≤400000000) {c:MC} {rv dv:Value} (hr:aP w c.r rv dv) (hs:c.r.sm):af Tryz.prog 126 #[v,.agg (cK c rv dv).toArray] w (fun v' w'=>Put w v n xs (mf c) v' w'):=by
 obtain ⟨ra,rn,rc,da,dn,dc,rfl,rfl⟩:=hr.sl;refine ah au mixed Tryz.func126 rfl rfl ?_;refine fun w1 b1 m1 g1 l1=>?_
 have P:=Put.pre g1 (Put.nil (ji ho g1));refine ⟨_,_,m1,_,rfl,_,dx P.row (by simp;omega) _,fun v2 w2 p2=>?_⟩;obtain ⟨P,m1⟩:=P.more p2 m1 (by decide);refine ⟨_,_,m1,_,rfl,aj (fun d=>?_) (fun d=>?_)⟩
 ·have d1:c.kind=1:=by simpa using d
  refine ⟨_,_,m1,c.q.cells,rfl,rfl,_,F8 P.row (by simp;omega) _,fun v2 w2 p2=>?_⟩;exact (P.trans p2).eq (by simp [mf,d1])
 ·have d1:¬ c.kind=1:=by simpa using d
  refine aj (fun e=>?_) (fun e=>?_)
  ·have e1:c.kind=2:=by simpa using e
   refine ⟨_,_,m1,dN c.r _ _,rfl,rfl,_,I8 P.row (by simp;omega) (hr.kz (P.kz ho)) hs,fun v2 w2 p2=>?_⟩;exact (P.trans p2).eq (by simp [mf,e1])
  ·have e1:¬ c.kind=2:=by simpa using e
   refine aj (fun f=>?_) (fun f=>?_)
   ·have f1:c.kind=3:=by simpa using f
    refine ⟨_,_,m1,_,rfl,_,dx P.row (by simp;omega) _,fun v2 w2 p2=>?_⟩;obtain ⟨P,m1⟩:=P.more p2 m1 (by decide);refine ⟨_,_,m1,_,rfl,_,iU P.row (by simp;omega) _,fun v2 w2 p2=>?_⟩;exact (P.trans p2).eq (by simp [mf,f1])
   ·have f1:¬ c.kind=3:=by simpa using f
    exact P.eq (by simp [mf,d1,e1,f1])
theorem NI (ho:w.ownsRow 0 5 1 v n xs) (hn:n≤300000000) {x:MV} {rv dv:Value} (hr:aP w x.c.r rv dv) (hs:x.c.r.sm):af Tryz.prog 124 #[v,.agg (jm x rv dv).toArray] w (fun v' w'=>Put w v n xs (kD x) v' w'):=by
 obtain ⟨ra,rn,rc,da,dn,dc,rfl,rfl⟩:=hr.sl;refine ah au mixed Tryz.func124 rfl rfl ?_;refine fun w1 b1 m1 g1 l1=>?_
 have P:=Put.pre g1 (Put.nil (ji ho g1));refine ⟨_,_,m1,_,rfl,_,iU P.row (by simp;omega) _,fun v2 w2 p2=>?_⟩;obtain ⟨P,m1⟩:=P.more p2 m1 (by decide);refine ⟨_,_,m1,[.int .u32 x.b.n,.int .u8 x.b.id],rfl,rfl,_,pG P.row (by simp [b32];omega) _ _,fun v2 w2 p2=>?_⟩;obtain ⟨P,m1⟩:=P.more p2 m1 (by decide);refine ⟨_,_,m1,cK x.c _ _,rfl,rfl,_,Aa P.row (by simp [b32,eB];omega) (hr.kz (P.kz ho)) hs,fun v2 w2 p2=>?_⟩;exact (P.trans p2).eq rfl
end
structure MM.sm (m:MM):Prop where
 c:m.c.r.sm
 r:m.r.sm
 vl:m.vs.length≤255
 vs:∀ v∈m.vs,v.c.r.sm
def qg (m:MM):List Int:=if m.kind=1 then uO m.q else if m.kind=2 then mU m.p else if m.kind=3 then eB m.b.n m.b.id else if m.kind=5 then eB m.b.n m.b.id else if m.kind=4 then eB m.b.n m.b.id++([(m.vs.length:Int)]++(m.vs.map kD).flatten) else if m.kind=6 then eB m.b.n m.b.id++b32 m.s++mf m.c else if m.kind=7 then eB m.b.n m.b.id++b32 m.s else if m.kind=8 then b32 m.s++mf m.c else if m.kind=9 then Eg m.r else if m.kind=10 then [m.peer]++b32 m.seq else []
def kZ (m:MM):List Int:=[m.kind]++qg m
theorem I9:∀ (l:List MV) (ps:List (Value×Value)),List.zipWith (fun x p=>jm x p.1 p.2) l ps=(l.zip ps).map fun x=>jm x.1 x.2.1 x.2.2
 | [],_=>by simp
 | _::_,[]=>by simp
 | _::l,_::ps=>by simp [I9 l ps]
section
variable {w:World} {v:Value} {n:Nat} {xs:List Value}
theorem KE (ho:w.ownsRow 0 5 1 v n xs) (hn:n≤200000000) {l:List MV} {vv:Value} (hv:bY w vv l) (yg:l.length≤255) (hs:∀ v∈l,v.c.r.sm):af Tryz.prog 123 #[v,vv,.func (.func 124) #[] #[]] w (fun v' w'=>Put w v n xs ([(l.length:Int)]++(l.map kD).flatten) v' w'):=by
 obtain ⟨ps,hp,hf,hr⟩:=hv;have hlen:(l.zip ps).length=l.length:=by rw [List.length_zip,hp,Nat.min_self]
 have hmap:(l.zip ps).map (fun x=>kD x.1)=l.map kD:=by
  rw [show (fun x:MV×Value×Value=>kD x.1)=kD∘Prod.fst from rfl,← List.map_map,List.map_fst_zip (by omega)]
 have hat:∀ x∈l.zip ps,aP w x.1.c.r x.2.1 x.2.2∧x.1∈l:=fun x hx=>by
  obtain ⟨i,hi⟩:=List.mem_iff_getElem?.1 hx;rw [List.getElem?_zip_eq_some] at hi;exact ⟨hr i x.1 x.2 hi.1 hi.2,List.mem_of_getElem? hi.1⟩
 rw [I9,← hlen] at hf;have h:=I5 (g:=fun x=>kD x.1) (L:=10010) (B:=300000000) hf (fun x hx w' v' n' xs' k h1 h2=>NI h1 h2 ((hat x hx).1.kz k) (hs _ (hat x hx).2)) (fun x hx=>by
  obtain ⟨_,_,_,_,_,_,e1,e2⟩:=(hat x hx).1.sl;exact ⟨_,_,_,_,_,_,e1,e2⟩) (fun x hx=>PK (hs _ (hat x hx).2)) (by omega) ho (by omega) (by decide)
 rw [hmap,hlen] at h;exact h
theorem PL (ho:w.ownsRow 0 5 1 v n xs) (hn:n≤100000000) {m:MM} {rv dv vv rv' cB:Value} (hc:aP w m.c.r rv dv) (hv:bY w vv m.vs) (hr:aP w m.r rv' cB) (hs:m.sm) (hk:1≤m.kind∧m.kind≤10):af Tryz.prog 67 #[v,.agg (dK m rv dv vv rv' cB).toArray] w (fun v' w'=>Put w v n xs (kZ m) v' w'):=by
 obtain ⟨_,_,_,_,_,_,rfl,rfl⟩:=hc.sl;obtain ⟨_,_,_,_,_,_,rfl,rfl⟩:=hr.sl;obtain ⟨_,_,rfl⟩:=hv.sl;obtain ⟨k,q,p,b,s,c,vs,r,peer,seq⟩:=m;dsimp only at hk hc hv hr;have hk:k=1∨k=2∨k=3∨k=4∨k=5∨k=6∨k=7∨k=8∨k=9∨k=10:=by omega
 have P0:=fun w1 (g1:GB none w w1)=>Put.pre g1 (Put.nil (ji ho g1))
 rcases hk with rfl | rfl | rfl | rfl | rfl | rfl | rfl | rfl | rfl | rfl
 ·refine ah au mixed Tryz.func67 rfl rfl ?_
  refine fun w1 b1 m1 g1 l1=>?_
  have P:=P0 w1 g1;refine ⟨_,_,m1,_,rfl,_,dx P.row (by simp;omega) _,fun v2 w2 p2=>?_⟩;obtain ⟨P,m1⟩:=P.more p2 m1 (by decide);refine ⟨_,_,m1,_,rfl,?_⟩;refine ⟨_,_,m1,q.cells,rfl,rfl,_,F8 P.row (by simp;omega) _,fun v2 w2 p2=>?_⟩;exact (P.trans p2).eq (by simp [kZ,qg])
 ·refine ah au mixed Tryz.func67 rfl rfl ?_
  refine fun w1 b1 m1 g1 l1=>?_
  have P:=P0 w1 g1;refine ⟨_,_,m1,_,rfl,_,dx P.row (by simp;omega) _,fun v2 w2 p2=>?_⟩;obtain ⟨P,m1⟩:=P.more p2 m1 (by decide);refine ⟨_,_,m1,_,rfl,?_⟩;refine ⟨_,_,m1,p.cells,rfl,rfl,_,F7 P.row (by simp;omega) _,fun v2 w2 p2=>?_⟩;exact (P.trans p2).eq (by simp [kZ,qg])
 ·refine ah au mixed Tryz.func67 rfl rfl ?_
  refine fun w1 b1 m1 g1 l1=>?_
  have P:=P0 w1 g1;refine ⟨_,_,m1,_,rfl,_,dx P.row (by simp;omega) _,fun v2 w2 p2=>?_⟩;obtain ⟨P,m1⟩:=P.more p2 m1 (by decide);refine ⟨_,_,m1,_,rfl,?_⟩;refine ⟨_,_,m1,[.int .u32 b.n,.int .u8 b.id],rfl,rfl,_,pG P.row (by simp;omega) _ _,fun v2 w2 p2=>?_⟩;exact (P.trans p2).eq (by simp [kZ,qg])
 ·refine ah au mixed Tryz.func67 rfl rfl ?_
  refine fun w1 b1 m1 g1 l1=>?_
  have P:=P0 w1 g1;refine ⟨_,_,m1,_,rfl,_,dx P.row (by simp;omega) _,fun v2 w2 p2=>?_⟩;obtain ⟨P,m1⟩:=P.more p2 m1 (by decide);refine ⟨_,_,m1,_,rfl,?_⟩;refine ⟨_,_,m1,[.int .u32 b.n,.int .u8 b.id],rfl,rfl,_,pG P.row (by simp;omega) _ _,fun v2 w2 p2=>?_⟩;obtain ⟨P,m1⟩:=P.more p2 m1 (by decide);refine ⟨_,_,m1,_,rfl,_,KE P.row (by simp [b32,eB];omega) (hv.kz (P.kz ho)) hs.vl hs.vs,fun v2 w2 p2=>?_⟩;exact (P.trans p2).eq (by simp [kZ,qg])
 ·refine ah au mixed Tryz.func67 rfl rfl ?_
  refine fun w1 b1 m1 g1 l1=>?_
  have P:=P0 w1 g1;refine ⟨_,_,m1,_,rfl,_,dx P.row (by simp;omega) _,fun v2 w2 p2=>?_⟩;obtain ⟨P,m1⟩:=P.more p2 m1 (by decide);refine ⟨_,_,m1,_,rfl,?_⟩;refine ⟨_,_,m1,[.int .u32 b.n,.int .u8 b.id],rfl,rfl,_,pG P.row (by simp;omega) _ _,fun v2 w2 p2=>?_⟩;exact (P.trans p2).eq (by simp [kZ,qg])
 ·refine ah au mixed Tryz.func67 rfl rfl ?_
  refine fun w1 b1 m1 g1 l1=>?_
  have P:=P0 w1 g1;refine ⟨_,_,m1,_,rfl,_,dx P.row (by simp;omega) _,fun v2 w2 p2=>?_⟩;obtain ⟨P,m1⟩:=P.more p2 m1 (by decide);refine ⟨_,_,m1,_,rfl,?_⟩;refine ⟨_,_,m1,[.int .u32 b.n,.int .u8 b.id],rfl,rfl,_,pG P.row (by simp;omega) _ _,fun v2 w2 p2=>?_⟩;obtain ⟨P,m1⟩:=P.more p2 m1 (by decide);refine ⟨_,_,m1,_,rfl,_,iU P.row (by simp [b32,eB];omega) _,fun v2 w2 p2=>?_⟩;obtain ⟨P,m1⟩:=P.more p2 m1 (by decide);refine ⟨_,_,m1,cK c _ _,rfl,rfl,_,Aa P.row (by simp [b32,eB];omega) (hc.kz (P.kz ho)) hs.c,fun v2 w2 p2=>?_⟩;exact (P.trans p2).eq (by simp [kZ,qg])
 ·refine ah au mixed Tryz.func67 rfl rfl ?_
  refine fun w1 b1 m1 g1 l1=>?_
  have P:=P0 w1 g1;refine ⟨_,_,m1,_,rfl,_,dx P.row (by simp;omega) _,fun v2 w2 p2=>?_⟩;obtain ⟨P,m1⟩:=P.more p2 m1 (by decide);refine ⟨_,_,m1,_,rfl,?_⟩;refine ⟨_,_,m1,[.int .u32 b.n,.int .u8 b.id],rfl,rfl,_,pG P.row (by simp;omega) _ _,fun v2 w2 p2=>?_⟩;obtain ⟨P,m1⟩:=P.more p2 m1 (by decide);refine ⟨_,_,m1,_,rfl,_,iU P.row (by simp [b32,eB];omega) _,fun v2 w2 p2=>?_⟩;exact (P.trans p2).eq (by simp [kZ,qg])
 ·refine ah au mixed Tryz.func67 rfl rfl ?_
  refine fun w1 b1 m1 g1 l1=>?_
  have P:=P0 w1 g1;refine ⟨_,_,m1,_,rfl,_,dx P.row (by simp;omega) _,fun v2 w2 p2=>?_⟩;obtain ⟨P,m1⟩:=P.more p2 m1 (by decide);refine ⟨_,_,m1,_,rfl,?_⟩;refine ⟨_,_,m1,_,rfl,_,iU P.row (by simp;omega) _,fun v2 w2 p2=>?_⟩;obtain ⟨P,m1⟩:=P.more p2 m1 (by decide);refine ⟨_,_,m1,cK c _ _,rfl,rfl,_,Aa P.row (by simp [b32];omega) (hc.kz (P.kz ho)) hs.c,fun v2 w2 p2=>?_⟩;exact (P.trans p2).eq (by simp [kZ,qg])
 ·refine ah au mixed Tryz.func67 rfl rfl ?_
  refine fun w1 b1 m1 g1 l1=>?_
  have P:=P0 w1 g1;refine ⟨_,_,m1,_,rfl,_,dx P.row (by simp;omega) _,fun v2 w2 p2=>?_⟩;obtain ⟨P,m1⟩:=P.more p2 m1 (by decide);refine ⟨_,_,m1,_,rfl,?_⟩;refine ⟨_,_,m1,dN r _ _,rfl,rfl,_,I8 P.row (by simp;omega) (hr.kz (P.kz ho)) hs.r,fun v2 w2 p2=>?_⟩;exact (P.trans p2).eq (by simp [kZ,qg])
 ·refine ah au mixed Tryz.func67 rfl rfl ?_
  refine fun w1 b1 m1 g1 l1=>?_
  have P:=P0 w1 g1;refine ⟨_,_,m1,_,rfl,_,dx P.row (by simp;omega) _,fun v2 w2 p2=>?_⟩;obtain ⟨P,m1⟩:=P.more p2 m1 (by decide);refine ⟨_,_,m1,_,rfl,?_⟩;refine ⟨_,_,m1,_,rfl,_,dx P.row (by simp;omega) _,fun v2 w2 p2=>?_⟩;obtain ⟨P,m1⟩:=P.more p2 m1 (by decide);refine ⟨_,_,m1,_,rfl,_,iU P.row (by simp;omega) _,fun v2 w2 p2=>?_⟩;exact (P.trans p2).eq (by simp [kZ,qg])
end
def eT (A:bE) (R:MR) (c:MC):MR:=if 60≤R.sc.next∨kH R.props c=true∨kH R.known c=true then R else kC A { R with sc:={ R.sc with next:=R.sc.next+1 } } R.sc.next c
section
variable {A:bE} (HA:bW A)
include HA
theorem Ok.offer {R:MR} (ho:Ok A R) {c:MC} (hgc:A.gc c):Ok A (eT A R c)∧(eT A R c).out.length≤R.out.length+315∧(eT A R c).sc.i=R.sc.i∧(eT A R c).sc.sz=R.sc.sz:=by
 unfold eT;split
 ·exact ⟨ho,by omega,rfl,rfl⟩
 ·rename_i h
  have I1:R.sc.next<60:=by omega
  have o2:Ok A { R with sc:={ R.sc with next:=R.sc.next+1 } }:=⟨ho.sz,ho.i,ho.st,ho.kn,ho.pp,ho.vt,ho.wv,ho.mt,ho.ac,ho.pr,ho.lg,ho.lc,by show R.sc.next+1≤60;omega,ho.sn⟩;exact o2.prop HA I1 hgc
variable {Λ:bN} {w:World} {br:Nat} {R:MR}
theorem mW (h:Wk Λ br R w) (ho:Ok A R) {c:MC} (hgc:A.gc c) {cv:Value} (hc:jE w cv c) (hb:R.out.length≤870000):af Tryz.prog 137 #[.pointer (some ⟨br,0,none⟩),cv] w (fun v w'=>v=.tuple #[]∧Wk Λ br (eT A R c) w'∧Kz w w'):=by
 obtain ⟨rv,dv,rfl,hr⟩:=hc;refine ah au mixed Tryz.func137 rfl rfl ?_;intro w1 b1 m1 g1 l1;obtain ⟨a,h⟩:=h;have h1:=h.box g1 m1 l1;have u1:=h.p9 l1;have hnx:=ho.nx;refine ⟨by kernel_rfl,_,_,h1.ri.mem,_,rfl,aj (fun d=>?_) (fun d=>?_)⟩
 ·have d1:R.sc.next<60:=by simp at d;omega
  have hc1:jE w1 (.agg (cK c rv dv).toArray) c:=⟨_,_,rfl,hr.kz g1.kz⟩;refine ⟨_,_,h1.ri.mem,_,rfl,_,_,m1,cK c rv dv,rfl,rfl,_,CF h1.ri.pp (fun k d h=>(ho.pp k d h).2) hc1,?_⟩;rintro _ w2 ⟨rfl,g2⟩;have h2:=h1.ax g2;have m2:=g2.get m1 nofun;refine ⟨⟨m2,h2.ri.mem,h2.ri.mem,trivial⟩,aj (fun e=>?_) (fun e=>?_)⟩
  ·have e1:kH R.props c=false:=eq_of_beq e
   refine ⟨⟨_,_,h2.ri.mem,_,rfl,_,_,m2,cK c rv dv,rfl,rfl,_,CF h2.ri.kn (fun k d h=>(ho.kn k d h).2) (hc1.kz g2.kz),?_⟩,⟨_,_,m2,cK c rv dv,rfl,rfl,_,_,h2.ri.mem,_,rfl,_,CF h2.ri.kn (fun k d h=>(ho.kn k d h).2) (hc1.kz g2.kz),?_⟩⟩;all_goals
    rintro _ w3 ⟨rfl,g3⟩;have h3:=h2.ax g3;have m3:=g3.get m2 nofun;have kk:=((g1.trans g2).trans g3).kz;refine aj (fun e'=>?_) (fun e'=>?_)
    ·have e2:kH R.known c=true:=e'
     have em:eT A R c=R:=if_pos (.inr (.inr e2));rw [em];exact ⟨rfl,Wk.drop ⟨_,h3⟩ u1,kk⟩
    ·have e2:kH R.known c=false:=e'
     have em:eT A R c=kC A { R with sc:={ R.sc with next:=R.sc.next+1 } } R.sc.next c:=if_neg (by rw [e1,e2];simp;omega);rw [em];refine ⟨_,_,h3.ri.mem,_,rfl,_,_,h3.ri.mem,_,rfl,by omega,_,_,_,h3.ri.mem,rfl,rfl,fun w4 m4 g4=>?_⟩;have h4:=h3.cell (s':={ R.sc with next:=R.sc.next+1 }) m4 g4;have k4:=h3.ri.kz h3.ri.eQ g4;have m5:=(h4.pr b1 _ (bN.mV _ _ _)).1;have o4:Ok A { R with sc:={ R.sc with next:=R.sc.next+1 } }:=⟨ho.sz,ho.i,ho.st,ho.kn,ho.pp,ho.vt,ho.wv,ho.mt,ho.ac,ho.pr,ho.lg,ho.lc,by show R.sc.next+1≤60;omega,ho.sn⟩;have hc4:jE w4 (.agg (cK c rv dv).toArray) c:=⟨_,_,rfl,(hr.kz kk).kz k4⟩;refine ⟨_,_,m5,cK c rv dv,rfl,rfl,_,Fe HA (Wk.drop ⟨_,h4⟩ u1) o4 d1 hgc hc4 hb,?_⟩;rintro _ w5 ⟨rfl,h5,k5⟩;exact ⟨rfl,h5,(kk.trans k4).trans k5⟩
  ·have e1:kH R.props c=true:=by cases h:kH R.props c;rw [h] at e;cases e;rfl
   have em:eT A R c=R:=if_pos (.inr (.inl e1));rw [em];exact ⟨⟨rfl,Wk.drop ⟨_,h2⟩ u1,(g1.trans g2).kz⟩,⟨rfl,Wk.drop ⟨_,h2⟩ u1,(g1.trans g2).kz⟩⟩
 ·have d1:60≤R.sc.next:=by simp at d;omega
  have em:eT A R c=R:=if_pos (.inl d1);rw [em];exact ⟨rfl,Wk.drop ⟨_,h1⟩ u1,g1.kz⟩
end
section
variable (A:bE)
def lh (R:MR) (f:Nat×Nat) (m:MM):MR:=if m.b.lt R.sc.b=true then dW A.enc R f m.b else nN A.enc (yc (dW A.enc R f m.b) m.s m.c) { bf 7 with b:=m.b,s:=m.s } [f]
def tX (R:MR) (f:Nat×Nat) (m:MM):MR:=if R.sc.role=2∧m.b=R.sc.b then ky A R m.s f.2 else R
def oF (r:Rg):MC:={ kQ with kind:=2,r:=r }
def rJ (R:MR) (f:Nat×Nat) (r:Rg):MR:=if R.sc.role≠2 then R else if r.seq≤R.st.I.getD r.src.toNat 0 then zX A.enc R r.src.toNat [f] else if r.seq=R.st.I.getD r.src.toNat 0+1 then eT A R (oF r) else R
end
section
variable {A:bE} (HA:bW A) {Λ:bN} {w:World} {br:Nat} {R:MR}
include HA
theorem NJ (h:Wk Λ br R w) (f:Nat×Nat) {m:MM} {mv:Value} (hm:zW w mv m) (hb:R.out.length≤870000):af Tryz.prog 82 #[.pointer (some ⟨br,0,none⟩),.agg #[.int .u8 f.1,.int .u8 f.2],mv] w (fun v w'=>v=.tuple #[]∧Wk Λ br (lh A R f m) w'∧Kz w w'):=by
 obtain ⟨rv,dv,vv,rv',cB,rfl,hr,hvs,hr'⟩:=hm;refine ah au mixed Tryz.func82 rfl rfl ?_;intro w1 b1 m1 g1 l1 w2 b2 m2 g2 l2;obtain ⟨h2,u2⟩:=(h.ax g1).box g2 m2 l2;have m1:=g2.get m1 nofun;have g:=g1.trans g2;refine ⟨_,_,m1,_,rfl,rfl,_,_,m2,_,rfl,rfl,_,F4 HA.jd h2 f m.b (by omega),?_⟩;rintro _ w3 ⟨rfl,h3,k3⟩;have m1:=k3 _ (by decide) _ _ m1;unfold lh;refine aj (fun c=>?_) (fun c=>?_)
 ·rw [if_pos c]
  exact ⟨rfl,h3.drop u2,g.kz.trans k3⟩
 rw [if_neg (by rw [c];decide)];have hl:(dW A.enc R f m.b).out.length≤900000:=by
  unfold dW;rw [if_neg (by rw [c];decide)];split
  ·omega
  ·show R.out.length≤_;omega
 have hc3:jE w3 (.agg (cK m.c rv dv).toArray) m.c:=⟨_,_,rfl,(hr.kz g.kz).kz k3⟩;refine ⟨_,_,h3.at,_,rfl,_,_,h3.at,cK m.c rv dv,rfl,rfl,_,Lj h3 hc3,?_⟩;rintro _ w4 ⟨rfl,h4,k4⟩;have m1:=k4 _ (by decide) _ _ m1;refine ⟨_,_,h4.at,_,rfl,rfl,_,_,h4.at,_,rfl,_,_,m1,_,rfl,rfl,fun w5 b5 m5 g5 l5=>?_⟩;refine ⟨_,mR HA.jd ((h4.drop u2).ax g5) (m:={ bf 7 with b:=m.b,s:=m.s }) ⟨_,_,_,_,_,rfl,aP.zero _,bY.zero _,aP.zero _⟩ (tl:=[f]) ⟨_,_,rfl,Nat.le_refl _,rfl,.inr ⟨_,_,_,rfl,m5,rfl⟩⟩ (by simp;show (dW A.enc R f m.b).out.length≤_;omega),?_⟩;rintro _ w6 ⟨rfl,h6,k6⟩;exact ⟨rfl,h6,(((g.kz.trans k3).trans k4).trans g5.kz).trans k6⟩
theorem V4 (h:Wk Λ br R w) (ho:Ok A R) (f:Nat×Nat) (hf:f.2<5) {m:MM} (hs:m.s<60) {mv:Value} (hm:zW w mv m) (hb:R.out.length≤870000):af Tryz.prog 83 #[.pointer (some ⟨br,0,none⟩),.agg #[.int .u8 f.1,.int .u8 f.2],mv] w (fun v w'=>v=.tuple #[]∧Wk Λ br (tX A R f m) w'∧Kz w w'):=by
 obtain ⟨rv,dv,vv,rv',cB,rfl,hr,hvs,hr'⟩:=hm;refine ah au mixed Tryz.func83 rfl rfl ?_;intro w1 b1 m1 g1 l1 w2 b2 m2 g2 l2;have m1:=g2.get m1 nofun;have g:=g1.trans g2;have h2:=h.ax g;have h20:=h2;obtain ⟨a,h2⟩:=h2;unfold tX;refine ⟨by kernel_rfl,_,_,h2.ri.mem,_,rfl,aj (fun c=>?_) (fun c=>?_)⟩
 ·have c1:R.sc.role=2:=by simp at c;omega
  refine ⟨_,_,m2,_,rfl,rfl,_,_,h2.ri.mem,_,rfl,rfl,aj (fun d=>?_) (fun d=>?_)⟩
  ·have d1:m.b=R.sc.b:=by
    have e:m.b.n=R.sc.b.n∧m.b.id=R.sc.b.id:=by simp at d;omega
    exact dh.eq e.1 e.2
   rw [if_pos ⟨c1,d1⟩];refine ⟨_,_,m2,_,rfl,_,_,m1,_,rfl,_,Lr HA h20 ho m.s f.2 hs hf (by omega),?_⟩;rintro _ w3 ⟨rfl,h3,k3⟩;exact ⟨rfl,h3,g.kz.trans k3⟩
  ·have d1:¬ m.b=R.sc.b:=by rintro e;rw [e] at d;simp at d
   rw [if_neg (fun e=>d1 e.2)];exact ⟨rfl,h20,g.kz⟩
 ·have c1:¬ R.sc.role=2:=by simp at c;omega
  rw [if_neg (fun e=>c1 e.1)];exact ⟨rfl,h20,g.kz⟩
theorem V5 (h:Wk Λ br R w) (ho:Ok A R) (f:Nat×Nat) {r:Rg} (hs0:0≤r.src) (hs:r.src.toNat<R.st.I.length) (hq:r.seq≤4294967295) (hgc:A.gc (oF r)) {rv dv:Value} (hr:aP w r rv dv) (hb:R.out.length≤870000):af Tryz.prog 85 #[.pointer (some ⟨br,0,none⟩),.agg #[.int .u8 f.1,.int .u8 f.2],.agg (dN r rv dv).toArray] w (fun v w'=>v=.tuple #[]∧Wk Λ br (rJ A R f r) w'∧Kz w w'):=by
 have es:(r.src.toNat:Int)=r.src:=Int.toNat_of_nonneg hs0;refine ah au mixed Tryz.func85 rfl rfl ?_;intro w1 b1 m1 g1 l1 w2 b2 m2 g2 l2;have m1:=g2.get m1 nofun;have g:=g1.trans g2;have h2:=h.ax g;have h20:=h2;obtain ⟨a,h2⟩:=h2;obtain ⟨vm,wm,kn,mt,pp,ac,lg,ob,sT,sM,sD,sO,sI⟩:=a;obtain ⟨ia,ic,rfl,i1,i2,i3⟩:=h2.ri.st.I;rcases i3 with ⟨_,i3⟩ | ⟨B,off,cs,rfl,hB,hcut⟩
 ·omega
 obtain ⟨x,hx⟩:∃ x,R.st.I[r.src.toNat]? = some x:=⟨R.st.I[r.src.toNat],by simp [hs]⟩;have hx0:=HA.Lm _ ho.st _ _ hx;have hx1:R.st.I.getD r.src.toNat 0=x:=by rw [List.getD_eq_getElem?_getD,hx];rfl
 have hx2:cs.toList[off+r.src.toNat]? = some (.int .u32 x):=by
  have h1:(aO cs.toList off (R.st.I.length*1))[r.src.toNat]? = some (.int .u32 x):=by rw [hcut,List.getElem?_map,hx];rfl
  unfold aO at h1;rw [List.getElem?_take,if_pos (by omega),List.getElem?_drop] at h1;exact h1
 have em:rJ A R f r=if R.sc.role≠2 then R else if r.seq≤x then zX A.enc R r.src.toNat [f] else if r.seq=x+1 then eT A R (oF r) else R:=by unfold rJ;rw [hx1]
 rw [em];refine ⟨_,_,h2.ri.mem,_,rfl,aj (fun c=>?_) (fun c=>?_)⟩
 ·have c1:R.sc.role≠2:=by simp at c;omega
  rw [if_pos c1];exact ⟨rfl,h20,g.kz⟩
 have c1:¬ R.sc.role≠2:=by simp at c;omega
 rw [if_neg c1];refine ⟨by kernel_rfl,_,_,h2.ri.mem,_,rfl,_,_,m2,_,rfl,⟨by omega,by omega⟩,_,_,hB,.int .u32 x,by show cs.toList[off+r.src.toNat*1]? = _;rw [Nat.mul_one];exact hx2,?_⟩;refine ⟨_,_,m2,_,rfl,aj (fun d=>?_) (fun d=>?_)⟩
 ·have d1:r.seq≤x:=by simpa using d
  rw [if_pos d1];refine ⟨_,_,m2,_,rfl,_,_,m1,_,rfl,rfl,fun w3 b3 m3 g3 l3=>?_⟩;have ha:=Pz HA.jd (h20.ax g3) hs (tv:=.slice (some ⟨b3,0,none⟩) 1 1) (tl:=[f]) ⟨_,_,rfl,Nat.le_refl _,rfl,.inr ⟨_,0,_,rfl,m3,rfl⟩⟩ (by simp;omega);rw [es] at ha;refine ⟨_,ha,?_⟩;rintro _ w4 ⟨rfl,h4,k4⟩;exact ⟨rfl,h4,(g.trans g3).kz.trans k4⟩
 have d1:¬ r.seq≤x:=by simpa using d
 rw [if_neg d1];refine ⟨_,_,m2,_,rfl,by omega,aj (fun e=>?_) (fun e=>?_)⟩
 ·have e1:r.seq=x+1:=by simpa using e
  rw [if_pos e1];refine ⟨_,_,m2,dN r rv dv,rfl,rfl,_,mW HA h20 ho hgc (c:=oF r) ⟨rv,dv,rfl,hr.kz g.kz⟩ hb,?_⟩;rintro _ w4 ⟨rfl,h4,k4⟩;exact ⟨rfl,h4,g.kz.trans k4⟩
 ·have e1:¬ r.seq=x+1:=by simpa using e
  rw [if_neg e1];exact ⟨rfl,h20,g.kz⟩
end
def dU (p q:aD):Bool:=p.c == q.c && (p.s == q.s && (p.key == q.key && (p.k == q.k && (p.found == q.found && (p.v == q.v && (p.g == q.g && true))))))
theorem Ab {l:List aD} {k:Nat} {p:aD} (h:l[k]? = some p):aO (l.map aD.cells).flatten (k*7) 7=p.cells:=by
 rw [← List.flatMap_def];exact jy (f:=aD.cells) (fun _=>rfl) l k p h
theorem any_take_succ {α:Type} (f:α→Bool) (l:List α) (k:Nat) (x:α) (h:l[k]? = some x):(l.take (k+1)).any f=((l.take k).any f || f x):=by
 rw [List.take_add_one,h,List.any_append];simp
theorem Yy (w:World) {l:List aD} {v:Value} (hl:Fz w 70 7 v l.length (l.map aD.cells).flatten) (hn:l.length≤1000000) (p:aD):af Tryz.prog 179 #[v,.agg p.cells.toArray] w (fun v w'=>(∃ i:Int,v=.int .i64 i∧(0≤i↔l.any (dU p)=true))∧GB none w w'):=by
 obtain ⟨ta,tc,rfl,htc,htl,htd⟩:=hl;refine ah au mixed Tryz.func179 rfl rfl ?_;intro w1 b1 m1 g1 l1;refine ⟨fun q s w3=>∃ (k:Nat),q=l.length - k∧k≤l.length∧s=[(0,.slice ta l.length tc),(3,.pointer (some ⟨b1,0,none⟩)),(7,.int .i64 l.length),(8,.int .i64 k)]∧w3=w1∧(l.take k).any (dU p)=false,⟨_,_,⟨0,rfl,Nat.zero_le _,rfl,rfl,rfl⟩,rfl,rfl,rfl,rfl,trivial⟩,?_⟩;rintro q s w3 ⟨k,rfl,hk,rfl,rfl,hno⟩;refine aj (fun c=>?_) (fun c=>?_)
 ·have c1:k<l.length:=by simp at c;omega
  rcases htd with ⟨_,h0⟩ | ⟨B,off,cs,rfl,hB,hcut⟩
  ·omega
  obtain ⟨x,hx⟩:∃ x,l[k]? = some x:=⟨l[k],by simp [c1]⟩;refine ⟨by kernel_rfl,_,_,m1,_,rfl,rfl,⟨by omega,by omega⟩,_,_,g1.get hB nofun,x.cells,(Fz.elem hcut c1).trans (Ab hx),rfl,aj (fun d=>?_) (fun d=>?_)⟩
  ·have d1:dU p x=true:=d
   exact ⟨⟨k,rfl,fun _=>List.any_eq_true.2 ⟨x,List.mem_of_getElem? hx,d1⟩,fun _=>by omega⟩,g1⟩
  ·have d1:dU p x=false:=d
   exact ⟨by omega,_,_,⟨k+1,rfl,by omega,rfl,rfl,by rw [any_take_succ _ _ _ _ hx,hno,d1];rfl⟩,⟨rfl,rfl,rfl,rfl,trivial⟩,by omega⟩
 ·have c1:k=l.length:=by simp at c;omega
  subst c1;rw [List.take_length] at hno;exact ⟨⟨-1,rfl,fun h=>absurd h (by decide),fun h=>by rw [hno] at h;cases h⟩,g1⟩
theorem ui (w:World) {l:List aD} {v:Value} (hl:Fz w 70 7 v l.length (l.map aD.cells).flatten) (hn:l.length≤1000000) (p:aD):af Tryz.prog 135 #[v,.agg p.cells.toArray] w (fun v w'=>v=.bool (l.any (dU p))∧GB none w w'):=by
 have hl0:=hl;obtain ⟨ta,tc,rfl,htc,htl,htd⟩:=hl;refine ah au mixed Tryz.func135 rfl rfl ?_;intro w1 b1 m1 g1 l1;refine ⟨_,_,m1,p.cells,rfl,rfl,_,Yy w1 (hl0.kz g1.kz (by decide)) hn p,?_⟩;rintro _ w2 ⟨⟨i,rfl,hi⟩,g2⟩;refine ⟨congrArg Value.bool ?_,g1.trans g2⟩;cases hh:l.any (dU p) with
 | true=>exact decide_eq_true (hi.2 hh)
 | false=>exact decide_eq_false fun h=>by rw [hi.1 h] at hh;cases hh
end
end Go.Proofs.YtignemioillaiabGreat
