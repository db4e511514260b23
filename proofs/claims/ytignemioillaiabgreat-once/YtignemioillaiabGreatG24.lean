/- Lemmas. -/
import Derived.Test.YtignemioillaiabGreatG23
namespace Go.Proofs.YtignemioillaiabGreat
set_option maxHeartbeats 8000000
set_option linter.unusedSectionVars false
set_option maxRecDepth 100000
open List
section
open Go Go.Conc
theorem Put.kz{w w1:World}{v v1:Value}{n:Nat}{xs:List Value}{a:List Int}(h:Put w v n xs a v1 w1)(ho:w.ownsRow 0 5 1 v n xs):Kz w w1:=λt ht b c hb=>h.get ho hb λe=>by subst e;revert ht;decide
theorem tZ{α:Type}{g:α->List Int}{L:Nat}:∀{l:List α},(∀x∈l,(g x).length<=L)->(l.map g).flatten.length<=l.length*L
 | [],_=>by simp
 |x::l,h=>by
  have h1:=h x Jb4;have h2:=tZ (l:=l) λy hy=>h y (Jb2 _ hy)
  simp only[Jcj,Jfw,Jc6,length_cons,Jfk];omega
theorem JC{α β:Type}(g:α->List β){l:List α}{k:Nat}{x:α}(h:l[k]?=some x):((l.take (k+1)).map g).flatten=((l.take k).map g).flatten++g x:=by
 rw[Jfm,h];simp
theorem Me{α:Type}{l:List α}{i:Nat}{y:α}{f:α->List Value}{k:Nat}{cs:Array Value}{off:Nat}(hcut:aG cs.toList off (l.length*k)=(l.map f).flatten)(hy:l[i]?=some y)(hf:∀x,(f x).length=k):aG cs.toList (off+(i:Int).toNat*k) k=f y:=by
 rw[Jfa];exact(Fz.elem hcut (Jcn.1 hy).1).trans (by rw[<-Jfx];exact jb hf l i y hy)
abbrev ab7(α:Type)(f:α->List Value)(T k F G:Nat):Prop:=∀{kv:Value} (_:kv=.func (.func G) #[] #[]) {w:World} {v lv:Value} {n B L:Nat} {xs:List Value} {els:List α} {g:α->List Int} (_:Fz w T k lv els.length (els.map f).flatten) (_:∀x∈els,∀(w':World) (v':Value) (n':Nat) (xs':List Value),Kz w w'->w'.ownsRow 0 5 1 v' n' xs'->n'<=B->CY G #[v',.agg (f x).toArray] w' (λv'' w''=>Put w' v' n' xs' (g x) v'' w'')) (_:∀x∈els,(g x).length<=L) (_:els.length<=255) (_:w.ownsRow 0 5 1 v n xs) (_:n+1+255*L<=B) (_:B<=800000000),CY F #[v,lv,kv] w (λv' w'=>Put w v n xs ([(els.length:Int)]++(els.map g).flatten) v' w')
theorem Eo:ab7 Row Row.cells 139 2 176 177/\ab7 ag ag.cells 70 7 178 121:=by
 constructor<;>intro kv TN w v lv n B L xs els g hl hc hg Cm ho hn hB
 all_goals
  obtain⟨a,c,rfl,hcap,hlen,hv⟩:=hl
 refine aj Tryz.func176 rfl rfl ?_;rotate_left
 refine aj Tryz.func178 rfl rfl ?_;rotate_left
 all_goals
  refine .inl ⟨by omega,?_⟩;refine⟨_,dJ ho (by omega) _,λv1 w1 P=>?_⟩;obtain⟨a1,c1,rfl⟩:=af P.row;refine⟨λm s wk=>∃(k:Nat) (vk:Value),m=els.length-k/\k<=els.length/\s=[(0,vk),(2,kv),(14,.slice a els.length c),(15,.int .i64 els.length),(16,.int .i64 k)]/\Put w v n xs ([(els.length:Int)]++((els.take k).map g).flatten) vk wk,⟨_,_,⟨0,_,rfl,Jcm _,rfl,P.eq (by simp)⟩,sb rfl⟩,?_⟩;clear P;rintro m s wk ⟨k,vk,rfl,hk,rfl,P⟩;subst TN;obtain⟨ak,ck,rfl⟩:=af P.row;refine ah (λd=>?_) (λd=>?_)
  .have d1:k<els.length:=by have:=Ptq d;omega
   obtain⟨x,hx⟩:∃x,els[k]?=some x:=⟨els[k],by simp[d1]⟩;have hm:=Jcv hx;rcases hv with⟨_,h0⟩|⟨b,off,cs,rfl,hb,hcut⟩
   .omega
   have hb':=P.kz ho _ (by decide) b cs hb;refine⟨by omega,_,_,hb',x.cells,Me hcut hx (λ_=>rfl),rfl,λw2 b2 m2 g2 l2=>⟨_,_,_,m2,rfl,rfl,λw3 m3 g3=>?_⟩⟩;have g23:=g2.new g3 l2;have hlk:=tZ (l:=els.take k) (L:=L) λy hy=>hg y (Jfy hy)
   have hL:(els.take k).length*L<=255*L:=Jcr _ (by rw[Jd6];omega);refine⟨_,_,m3,x.cells,rfl,rfl,_,hc x hm w3 _ _ _ ((P.kz ho).trans g23.kz) (kK P.row g23) (by rw[Jc6,Jfz];omega),λv4 w4 p4=>?_⟩;obtain⟨a4,c4,rfl⟩:=af p4.row;exact⟨by omega,_,_,⟨k+1,_,rfl,by omega,rfl,(P.trans (p4.pre g23)).eq (by rw[JC g hx];simp)⟩,(sb rfl),by omega⟩
  .have d1:k=els.length:=by have:=Ptx d;omega
   exact P.eq (by rw[d1,Jfn])
section
variable{w:World}{v lv:Value}{n B L:Nat}{xs:List Value}
theorem Mf{els:List (MV×Value×Value)}{g:MV×Value×Value->List Int}(hl:Fz w 178 20 lv els.length (els.map λx=>kE x.1 x.2.1 x.2.2).flatten)(hc:∀x∈els,∀(w':World) (v':Value) (n':Nat) (xs':List Value),Kz w w'->w'.ownsRow 0 5 1 v' n' xs'->n'<=B->CY 124 #[v',.agg (kE x.1 x.2.1 x.2.2).toArray] w' (λv'' w''=>Put w' v' n' xs' (g x) v'' w''))(hs:∀x∈els,∃a n c a' n' c',x.2.1=.slice a n c/\x.2.2=.slice a' n' c')(hg:∀x∈els,(g x).length<=L)(Cm:els.length<=255)(ho:w.ownsRow 0 5 1 v n xs)(hn:n+1+255*L<=B)(hB:B<=800000000):CY 123 #[v,lv,.func (.func 124) #[] #[]] w (λv' w'=>Put w v n xs ([(els.length:Int)]++(els.map g).flatten) v' w'):=by
 obtain⟨a,c,rfl,hcap,hlen,hv⟩:=hl;refine aj Tryz.func123 rfl rfl ?_;refine .inl ⟨by omega,?_⟩;refine⟨_,dJ ho (by omega) _,λv1 w1 P=>?_⟩;obtain⟨a1,c1,rfl⟩:=af P.row;refine⟨λm s wk=>∃(k:Nat) (vk:Value),m=els.length-k/\k<=els.length/\s=[(0,vk),(2,.func (.func 124) #[] #[]),(14,.slice a els.length c),(15,.int .i64 els.length),(16,.int .i64 k)]/\Put w v n xs ([(els.length:Int)]++((els.take k).map g).flatten) vk wk,⟨_,_,⟨0,_,rfl,Jcm _,rfl,P.eq (by simp)⟩,sb rfl⟩,?_⟩;clear P;rintro m s wk ⟨k,vk,rfl,hk,rfl,P⟩;obtain⟨ak,ck,rfl⟩:=af P.row;refine ah (λd=>?_) (λd=>?_)
 .have d1:k<els.length:=by have:=Ptq d;omega
  obtain⟨x,hx⟩:∃x,els[k]?=some x:=⟨els[k],by simp[d1]⟩;have hm:=Jcv hx;obtain⟨x1,x2,x3⟩:=x;obtain⟨_,_,_,_,_,_,e1,e2⟩:=hs _ hm;dsimp only at e1 e2;subst e1;subst e2;have hc0:=hc _ hm;rcases hv with⟨_,h0⟩|⟨b,off,cs,rfl,hb,hcut⟩
  .omega
  have hel:aG cs.toList (off+k*20) 20=kE x1 (.slice _ _ _) (.slice _ _ _):=(Fz.elem hcut d1).trans (by rw[<-Jfx];exact jb (f:=λx:MV×Value×Value=>kE x.1 x.2.1 x.2.2) (λ_=>rfl) els k _ hx);have hb':=P.kz ho 178 (by decide) b cs hb;refine⟨by omega,_,_,hb',kE x1 (.slice _ _ _) (.slice _ _ _),by show aG cs.toList (off+(k:Int).toNat*20) 20=_;rw[Jfa];exact hel,rfl,λw2 b2 m2 g2 l2=>⟨_,_,_,m2,rfl,rfl,λw3 m3 g3=>?_⟩⟩;have g23:=g2.new g3 l2;have hlk:=tZ (l:=els.take k) (L:=L) λy hy=>hg y (Jfy hy)
  have hL:(els.take k).length*L<=255*L:=Jcr _ (by rw[Jd6];omega);refine⟨_,_,m3,kE x1 (.slice _ _ _) (.slice _ _ _),rfl,rfl,_,hc0 w3 _ _ _ ((P.kz ho).trans g23.kz) (kK P.row g23) (by rw[Jc6,Jfz];omega),λv4 w4 p4=>?_⟩;obtain⟨a4,c4,rfl⟩:=af p4.row;exact⟨by omega,_,_,⟨k+1,_,rfl,by omega,rfl,(P.trans (p4.pre g23)).eq (by rw[JC g hx];simp)⟩,(sb rfl),by omega⟩
 .have d1:k=els.length:=by have:=Ptx d;omega
  exact P.eq (by rw[d1,Jfn])
end
def Rg.sm(r:Rg):Prop:=r.rows.length<=255/\r.aX.length<=255
def GL(r:Rg):List Int:=[r.src]++[r.dst]++b32 r.seq++b64 r.lo++b64 r.hi++([(r.rows.length:Int)]++(r.rows.map tX).flatten)++([(r.aX.length:Int)]++(r.aX.map mK).flatten)
def nN(c:MC):List Int:=[c.kind]++(if c.kind=1 then vg c.q else if c.kind=2 then GL c.r else if c.kind=3 then[c.peer]++b32 c.seq else[])
def lK(v:MV):List Int:=b32 v.slot++fw v.b.n v.b.id++nN v.c
theorem E9(x:Row):(tX x).length=16:=by simp[tX,b64,b32]
theorem Mg(p:ag):(mK p).length<=23:=by
 unfold mK;split
 .split<;>simp[Dw,b64,b32]
 .split<;>simp[b64,b32]
theorem Mh(q:aW):(vg q).length<=23:=by
 unfold vg;split
 .simp[b64,b32]
 .split<;>simp[b64,b32]
theorem ZO{r:Rg}(h:r.sm):(GL r).length<=10000:=by
 have h1:=tZ (g:=tX) (L:=16) (l:=r.rows) λx _=>Jc0 (E9 x)
 have h2:=tZ (g:=mK) (L:=23) (l:=r.aX) λx _=>Mg x
 obtain⟨h3,h4⟩:=h;unfold GL;generalize (r.rows.map tX).flatten=a at *;generalize (r.aX.map mK).flatten=b at *;simp[b64,b32];omega
theorem WC{c:MC}(h:c.r.sm):(nN c).length<=10001:=by
 unfold nN;have:=ZO h;have:=Mh c.q;split
 .simp;omega
 .split
  .simp;omega
  .split<;>simp[b32]
theorem TP{v:MV}(h:v.c.r.sm):(lK v).length<=10010:=by
 unfold lK;have:=WC h;simp[b32,fw];omega
section
variable{w:World}{v:Value}{n:Nat}{xs:List Value}
theorem Mi(ho:w.ownsRow 0 5 1 v n xs)(hn:n<=500000000){r:Rg}{rv dv:Value}(hr:aS w r rv dv)(hs:r.sm):CY 127 #[v,.agg (fB r rv dv).toArray] w (λv' w'=>Put w v n xs (GL r) v' w'):=by
 obtain⟨ra,rn,rc,da,dn,dc,rfl,rfl⟩:=hr.sl;refine aj Tryz.func127 rfl rfl ?_;refine λw1 b1 m1 g1 l1=>?_
 have P:=Put.pre g1 (Put.nil (kK ho g1));refine⟨_,_,m1,_,rfl,_,dJ P.row (by simp;omega) _,λv2 w2 p2=>?_⟩;obtain⟨P,m1⟩:=P.more p2 m1 (by decide);refine⟨_,_,m1,_,rfl,_,dJ P.row (by simp;omega) _,λv2 w2 p2=>?_⟩;obtain⟨P,m1⟩:=P.more p2 m1 (by decide);refine⟨_,_,m1,_,rfl,_,jA P.row (by simp;omega) _,λv2 w2 p2=>?_⟩;obtain⟨P,m1⟩:=P.more p2 m1 (by decide);refine⟨_,_,m1,_,rfl,_,mJ P.row (by simp[b32];omega) _,λv2 w2 p2=>?_⟩;obtain⟨P,m1⟩:=P.more p2 m1 (by decide);refine⟨_,_,m1,_,rfl,_,mJ P.row (by simp[b32,b64];omega) _,λv2 w2 p2=>?_⟩;obtain⟨P,m1⟩:=P.more p2 m1 (by decide);have hr':=hr.kz (P.kz ho);refine⟨_,_,m1,_,rfl,_,Eo.1 rfl (g:=tX) (L:=16) (B:=600000000) hr'.1 (λx _ w' v' n' xs' _ h1 h2=>TM h1 (by omega) x) (λx _=>Jc0 (E9 x)) hs.1 P.row (by simp[b32,b64];omega) (by decide),λv2 w2 p2=>?_⟩;obtain⟨P,m1⟩:=P.more p2 m1 (by decide);have hr':=hr.kz (P.kz ho);have hl:=tZ (g:=tX) (L:=16) (l:=r.rows) λx _=>Jc0 (E9 x)
 have hl1:=hs.1;refine⟨_,_,m1,_,rfl,_,Eo.2 rfl (g:=mK) (L:=23) (B:=600000000) hr'.2 (λx _ w' v' n' xs' _ h1 h2=>Jz h1 (by omega) x) (λx _=>Mg x) hs.2 P.row (by generalize (r.rows.map tX).flatten=a at *;simp[b32,b64];omega) (by decide),λv2 w2 p2=>?_⟩;exact(P.trans p2).eq rfl
theorem Cn(ho:w.ownsRow 0 5 1 v n xs)(hn:n<=400000000){c:MC}{rv dv:Value}(hr:aS w c.r rv dv)(hs:c.r.sm):CY 126 #[v,.agg (dF c rv dv).toArray] w (λv' w'=>Put w v n xs (nN c) v' w'):=by
 obtain⟨ra,rn,rc,da,dn,dc,rfl,rfl⟩:=hr.sl;refine aj Tryz.func126 rfl rfl ?_;refine λw1 b1 m1 g1 l1=>?_
 have P:=Put.pre g1 (Put.nil (kK ho g1));refine⟨_,_,m1,_,rfl,_,dJ P.row (by simp;omega) _,λv2 w2 p2=>?_⟩;obtain⟨P,m1⟩:=P.more p2 m1 (by decide);refine⟨_,_,m1,_,rfl,ah (λd=>?_) (λd=>?_)⟩
 .have d1:c.kind=1:=by simpa using d
  refine⟨_,_,m1,c.q.cells,rfl,rfl,_,JA P.row (by simp;omega) _,λv2 w2 p2=>?_⟩;exact(P.trans p2).eq (by simp[nN,d1])
 .have d1:¬c.kind=1:=by simpa using d
  refine ah (λe=>?_) (λe=>?_)
  .have e1:c.kind=2:=by simpa using e
   refine⟨_,_,m1,fB c.r _ _,rfl,rfl,_,Mi P.row (by simp;omega) (hr.kz (P.kz ho)) hs,λv2 w2 p2=>?_⟩;exact(P.trans p2).eq (by simp[nN,e1])
  .have e1:¬c.kind=2:=by simpa using e
   refine ah (λf=>?_) (λf=>?_)
   .have f1:c.kind=3:=by simpa using f
    refine⟨_,_,m1,_,rfl,_,dJ P.row (by simp;omega) _,λv2 w2 p2=>?_⟩;obtain⟨P,m1⟩:=P.more p2 m1 (by decide);refine⟨_,_,m1,_,rfl,_,jA P.row (by simp;omega) _,λv2 w2 p2=>?_⟩;exact(P.trans p2).eq (by simp[nN,f1])
   .have f1:¬c.kind=3:=by simpa using f
    exact P.eq (by simp[nN,d1,e1,f1])
theorem Q7(ho:w.ownsRow 0 5 1 v n xs)(hn:n<=300000000){x:MV}{rv dv:Value}(hr:aS w x.c.r rv dv)(hs:x.c.r.sm):CY 124 #[v,.agg (kE x rv dv).toArray] w (λv' w'=>Put w v n xs (lK x) v' w'):=by
 obtain⟨ra,rn,rc,da,dn,dc,rfl,rfl⟩:=hr.sl;refine aj Tryz.func124 rfl rfl ?_;refine λw1 b1 m1 g1 l1=>?_
 have P:=Put.pre g1 (Put.nil (kK ho g1));refine⟨_,_,m1,_,rfl,_,jA P.row (by simp;omega) _,λv2 w2 p2=>?_⟩;obtain⟨P,m1⟩:=P.more p2 m1 (by decide);refine⟨_,_,m1,[.int .u32 x.b.n,.int .u8 x.b.id],rfl,rfl,_,rq P.row (by simp[b32];omega) _ _,λv2 w2 p2=>?_⟩;obtain⟨P,m1⟩:=P.more p2 m1 (by decide);refine⟨_,_,m1,dF x.c _ _,rfl,rfl,_,Cn P.row (by simp[b32,fw];omega) (hr.kz (P.kz ho)) hs,λv2 w2 p2=>?_⟩;exact(P.trans p2).eq rfl
end
structure MM.sm(m:MM):Prop where
 c:m.c.r.sm
 r:m.r.sm
 vl:m.vs.length<=255
 vs:∀v∈m.vs,v.c.r.sm
def rX(m:MM):List Int:=if m.kind=1 then vg m.q else if m.kind=2 then mK m.p else if m.kind=3 then fw m.b.n m.b.id else if m.kind=5 then fw m.b.n m.b.id else if m.kind=4 then fw m.b.n m.b.id++([(m.vs.length:Int)]++(m.vs.map lK).flatten)else if m.kind=6 then fw m.b.n m.b.id++b32 m.s++nN m.c else if m.kind=7 then fw m.b.n m.b.id++b32 m.s else if m.kind=8 then b32 m.s++nN m.c else if m.kind=9 then GL m.r else if m.kind=10 then[m.peer]++b32 m.seq else[]
def kG(m:MM):List Int:=[m.kind]++rX m
theorem Mj:∀(l:List MV) (ps:List (Value×Value)),zipWith (λx p=>kE x p.1 p.2) l ps=(l.zip ps).map λx=>kE x.1 x.2.1 x.2.2
 | [],_=>by simp
 |_::_,[]=>by simp
 |_::l,_::ps=>by simp[Mj l ps]
section
variable{w:World}{v:Value}{n:Nat}{xs:List Value}
theorem Oh(ho:w.ownsRow 0 5 1 v n xs)(hn:n<=200000000){l:List MV}{vv:Value}(hv:dC w vv l)(Cm:l.length<=255)(hs:∀v∈l,v.c.r.sm):CY 123 #[v,vv,.func (.func 124) #[] #[]] w (λv' w'=>Put w v n xs ([(l.length:Int)]++(l.map lK).flatten) v' w'):=by
 obtain⟨ps,hp,hf,hr⟩:=hv;have hlen:(l.zip ps).length=l.length:=by rw[length_zip,hp,Nat.min_self]
 have hmap:(l.zip ps).map (λx=>lK x.1)=l.map lK:=by
  rw[show(λx:MV×Value×Value=>lK x.1)=lK∘Prod.fst from rfl,<-map_map,map_fst_zip (by omega)]
 have hat:∀x∈l.zip ps,aS w x.1.c.r x.2.1 x.2.2/\x.1∈l:=λx hx=>by
  obtain⟨i,hi⟩:=Jdf.1 hx;rw[Jg0]at hi;exact⟨hr i x.1 x.2 hi.1 hi.2,Jcv hi.1⟩
 rw[Mj,<-hlen]at hf;have h:=Mf (g:=λx=>lK x.1) (L:=10010) (B:=300000000) hf (λx hx w' v' n' xs' k h1 h2=>Q7 h1 h2 ((hat x hx).1.kz k) (hs _ (hat x hx).2)) (λx hx=>by
  obtain⟨_,_,_,_,_,_,e1,e2⟩:=(hat x hx).1.sl;exact⟨_,_,_,_,_,_,e1,e2⟩) (λx hx=>TP (hs _ (hat x hx).2)) (by omega) ho (by omega) (by decide)
 rw[hmap,hlen]at h;exact h
theorem TQ(ho:w.ownsRow 0 5 1 v n xs)(hn:n<=100000000){m:MM}{rv dv vv rv' jU:Value}(hc:aS w m.c.r rv dv)(hv:dC w vv m.vs)(hr:aS w m.r rv' jU)(hs:m.sm)(hk:1<=m.kind/\m.kind<=10):CY 67 #[v,.agg (iW m rv dv vv rv' jU).toArray] w (λv' w'=>Put w v n xs (kG m) v' w'):=by
 obtain⟨_,_,_,_,_,_,rfl,rfl⟩:=hc.sl;obtain⟨_,_,_,_,_,_,rfl,rfl⟩:=hr.sl;obtain⟨_,_,rfl⟩:=hv.sl;obtain⟨k,q,p,b,s,c,vs,r,peer,seq⟩:=m;dsimp only at hk hc hv hr;have hk:k=1\/k=2\/k=3\/k=4\/k=5\/k=6\/k=7\/k=8\/k=9\/k=10:=by omega
 have P0:=λw1 (g1:GB none w w1)=>Put.pre g1 (Put.nil (kK ho g1))
 rcases hk with rfl|rfl|rfl|rfl|rfl|rfl|rfl|rfl|rfl|rfl
 .refine aj Tryz.func67 rfl rfl ?_
  refine λw1 b1 m1 g1 l1=>?_
  have P:=P0 w1 g1;refine⟨_,_,m1,_,rfl,_,dJ P.row (by simp;omega) _,λv2 w2 p2=>?_⟩;obtain⟨P,m1⟩:=P.more p2 m1 (by decide);refine⟨_,_,m1,_,rfl,?_⟩;refine⟨_,_,m1,q.cells,rfl,rfl,_,JA P.row (by simp;omega) _,λv2 w2 p2=>?_⟩;exact(P.trans p2).eq (by simp[kG,rX])
 .refine aj Tryz.func67 rfl rfl ?_
  refine λw1 b1 m1 g1 l1=>?_
  have P:=P0 w1 g1;refine⟨_,_,m1,_,rfl,_,dJ P.row (by simp;omega) _,λv2 w2 p2=>?_⟩;obtain⟨P,m1⟩:=P.more p2 m1 (by decide);refine⟨_,_,m1,_,rfl,?_⟩;refine⟨_,_,m1,p.cells,rfl,rfl,_,Jz P.row (by simp;omega) _,λv2 w2 p2=>?_⟩;exact(P.trans p2).eq (by simp[kG,rX])
 .refine aj Tryz.func67 rfl rfl ?_
  refine λw1 b1 m1 g1 l1=>?_
  have P:=P0 w1 g1;refine⟨_,_,m1,_,rfl,_,dJ P.row (by simp;omega) _,λv2 w2 p2=>?_⟩;obtain⟨P,m1⟩:=P.more p2 m1 (by decide);refine⟨_,_,m1,_,rfl,?_⟩;refine⟨_,_,m1,[.int .u32 b.n,.int .u8 b.id],rfl,rfl,_,rq P.row (by simp;omega) _ _,λv2 w2 p2=>?_⟩;exact(P.trans p2).eq (by simp[kG,rX])
 .refine aj Tryz.func67 rfl rfl ?_
  refine λw1 b1 m1 g1 l1=>?_
  have P:=P0 w1 g1;refine⟨_,_,m1,_,rfl,_,dJ P.row (by simp;omega) _,λv2 w2 p2=>?_⟩;obtain⟨P,m1⟩:=P.more p2 m1 (by decide);refine⟨_,_,m1,_,rfl,?_⟩;refine⟨_,_,m1,[.int .u32 b.n,.int .u8 b.id],rfl,rfl,_,rq P.row (by simp;omega) _ _,λv2 w2 p2=>?_⟩;obtain⟨P,m1⟩:=P.more p2 m1 (by decide);refine⟨_,_,m1,_,rfl,_,Oh P.row (by simp[b32,fw];omega) (hv.kz (P.kz ho)) hs.vl hs.vs,λv2 w2 p2=>?_⟩;exact(P.trans p2).eq (by simp[kG,rX])
 .refine aj Tryz.func67 rfl rfl ?_
  refine λw1 b1 m1 g1 l1=>?_
  have P:=P0 w1 g1;refine⟨_,_,m1,_,rfl,_,dJ P.row (by simp;omega) _,λv2 w2 p2=>?_⟩;obtain⟨P,m1⟩:=P.more p2 m1 (by decide);refine⟨_,_,m1,_,rfl,?_⟩;refine⟨_,_,m1,[.int .u32 b.n,.int .u8 b.id],rfl,rfl,_,rq P.row (by simp;omega) _ _,λv2 w2 p2=>?_⟩;exact(P.trans p2).eq (by simp[kG,rX])
 .refine aj Tryz.func67 rfl rfl ?_
  refine λw1 b1 m1 g1 l1=>?_
  have P:=P0 w1 g1;refine⟨_,_,m1,_,rfl,_,dJ P.row (by simp;omega) _,λv2 w2 p2=>?_⟩;obtain⟨P,m1⟩:=P.more p2 m1 (by decide);refine⟨_,_,m1,_,rfl,?_⟩;refine⟨_,_,m1,[.int .u32 b.n,.int .u8 b.id],rfl,rfl,_,rq P.row (by simp;omega) _ _,λv2 w2 p2=>?_⟩;obtain⟨P,m1⟩:=P.more p2 m1 (by decide);refine⟨_,_,m1,_,rfl,_,jA P.row (by simp[b32,fw];omega) _,λv2 w2 p2=>?_⟩;obtain⟨P,m1⟩:=P.more p2 m1 (by decide);refine⟨_,_,m1,dF c _ _,rfl,rfl,_,Cn P.row (by simp[b32,fw];omega) (hc.kz (P.kz ho)) hs.c,λv2 w2 p2=>?_⟩;exact(P.trans p2).eq (by simp[kG,rX])
 .refine aj Tryz.func67 rfl rfl ?_
  refine λw1 b1 m1 g1 l1=>?_
  have P:=P0 w1 g1;refine⟨_,_,m1,_,rfl,_,dJ P.row (by simp;omega) _,λv2 w2 p2=>?_⟩;obtain⟨P,m1⟩:=P.more p2 m1 (by decide);refine⟨_,_,m1,_,rfl,?_⟩;refine⟨_,_,m1,[.int .u32 b.n,.int .u8 b.id],rfl,rfl,_,rq P.row (by simp;omega) _ _,λv2 w2 p2=>?_⟩;obtain⟨P,m1⟩:=P.more p2 m1 (by decide);refine⟨_,_,m1,_,rfl,_,jA P.row (by simp[b32,fw];omega) _,λv2 w2 p2=>?_⟩;exact(P.trans p2).eq (by simp[kG,rX])
 .refine aj Tryz.func67 rfl rfl ?_
  refine λw1 b1 m1 g1 l1=>?_
  have P:=P0 w1 g1;refine⟨_,_,m1,_,rfl,_,dJ P.row (by simp;omega) _,λv2 w2 p2=>?_⟩;obtain⟨P,m1⟩:=P.more p2 m1 (by decide);refine⟨_,_,m1,_,rfl,?_⟩;refine⟨_,_,m1,_,rfl,_,jA P.row (by simp;omega) _,λv2 w2 p2=>?_⟩;obtain⟨P,m1⟩:=P.more p2 m1 (by decide);refine⟨_,_,m1,dF c _ _,rfl,rfl,_,Cn P.row (by simp[b32];omega) (hc.kz (P.kz ho)) hs.c,λv2 w2 p2=>?_⟩;exact(P.trans p2).eq (by simp[kG,rX])
 .refine aj Tryz.func67 rfl rfl ?_
  refine λw1 b1 m1 g1 l1=>?_
  have P:=P0 w1 g1;refine⟨_,_,m1,_,rfl,_,dJ P.row (by simp;omega) _,λv2 w2 p2=>?_⟩;obtain⟨P,m1⟩:=P.more p2 m1 (by decide);refine⟨_,_,m1,_,rfl,?_⟩;refine⟨_,_,m1,fB r _ _,rfl,rfl,_,Mi P.row (by simp;omega) (hr.kz (P.kz ho)) hs.r,λv2 w2 p2=>?_⟩;exact(P.trans p2).eq (by simp[kG,rX])
 .refine aj Tryz.func67 rfl rfl ?_
  refine λw1 b1 m1 g1 l1=>?_
  have P:=P0 w1 g1;refine⟨_,_,m1,_,rfl,_,dJ P.row (by simp;omega) _,λv2 w2 p2=>?_⟩;obtain⟨P,m1⟩:=P.more p2 m1 (by decide);refine⟨_,_,m1,_,rfl,?_⟩;refine⟨_,_,m1,_,rfl,_,dJ P.row (by simp;omega) _,λv2 w2 p2=>?_⟩;obtain⟨P,m1⟩:=P.more p2 m1 (by decide);refine⟨_,_,m1,_,rfl,_,jA P.row (by simp;omega) _,λv2 w2 p2=>?_⟩;exact(P.trans p2).eq (by simp[kG,rX])
end
structure CS(P:Program)[kD P](n:Nat)(c:Code)(K:Ex->Sg->World->Prop)(s:Sg)(w:World):Prop where
 go:∀{main:Bool} {D:World->World->Array Event->Prop} {X:Goroutine->World->Prop} (_:SX P main D X) (b:Frame) (cs:List Frame),b.kind≠.early->∀(k:List Item),(∀e s w,K e s w->Aft X b cs n k e s w)->∀a,Fit n s a->X (G (b.at a (.code c::k)) cs) w
section
variable{P:Program}[kD P]{n:Nat}{c x y:Code}{K K':Ex->Sg->World->Prop}{s q:Sg}{w:World}
theorem CS.of(E:ng P)(hm:P.follows .mixedOrders=true)(h:qE E n c K s w):CS P n c K s w:=⟨λhX _b _cs hk k hK a hf=>ES hX hk hm c K k hK s w a hf h⟩
theorem CS.e[kD Tryz.prog](h:qE fG n c K s w):CS Tryz.prog n c K s w:=CS.of fG mixed h
theorem CS.sub(h:CS P n c K q w)(hs:gz q s):CS P n c K s w:=⟨λhX b cs hk k hK a hf=>h.go hX b cs hk k hK a (hf.sub hs)⟩
theorem CS.mono(h:CS P n c K s w)(hk:∀e s w,K e s w->K' e s w):CS P n c K' s w:=⟨λhX b cs hb k hK a hf=>h.go hX b cs hb k (λe s w he=>hK e s w (hk e s w he)) a hf⟩
theorem CS.seq(h:CS P n x (λe s w=>TC (CS P n y K s w) (K e s w) e) s w):CS P n (.seq x y) K s w:=⟨λhX b cs hk k hK a hf=>hX.c.seq (h.go hX b cs hk (.code y::k) (λe s w he a hf=>by
 cases e with
 |n=>exact(show CS P n y K s w from he).go hX b cs hk k hK a hf
 |x j=>exact hK (.x j) s w he a hf
 |r=>exact hK .r s w he a hf) a hf)⟩
theorem CS.block{id:Nat}(h:CS P n c (λe s w=>K (blE id e) s w) s w):CS P n (.block id c) K s w:=⟨λhX b cs hk k hK a hf=>hX.c.block (h.go hX b cs hk (.inBlock id::k) (λe s w he a hf=>by
 cases e with
 |n=>exact hX.c.inBlock (hK .n s w he a hf)
 |x j =>
  have he:K (bif Nat.beq id j then .n else .x j) s w:=he;cases hb:Nat.beq id j with
  |true =>
   rw[hb]at he;have:=Jdq hb;subst this;exact⟨k,by simp[exitTo],hK .n s w he a hf⟩
  |false =>
   rw[hb]at he;obtain⟨k',h1,h2⟩:=hK (.x j) s w he a hf;have hne:¬id=j:=λe=>by subst e;rw[Nat.beq_refl]at hb;cases hb
   exact⟨k',by unfold exitTo;rw[Jb5 (by simpa using hne)];exact h1,h2⟩
 |r=>exact hK .r s w he a hf) a hf)⟩
theorem CS.loop(I:Nat->Sg->World->Prop)(h0:∃m q,I m q w/\gz q s)(h:∀m s w,I m s w->CS P n c (λe s w=>TC (∃m' q,I m' q w/\gz q s/\m'<m) (K e s w) e) s w):CS P n (.loop c) K s w:=by
 refine⟨λ{main D X} hX b cs hk k hK a hf=>?_⟩;obtain⟨m,q,hI,hq⟩:=h0;refine hX.c.loop ?_;suffices hh:∀N m q w a,m<=N->I m q w->Fit n q a->X (G (b.at a (.code c::.inLoop c::k)) cs) w from hh m m q w a (Jb0 _) hI (hf.sub hq)
 intro N;induction N with
 |zero =>
  intro m q w a hmN hI hf;refine(h m q w hI).go hX b cs hk (.inLoop c::k) (λe s w he a hf=>?_) a hf;cases e with
  |n=>obtain⟨m',q',_,_,h3⟩:=(show ∃m' q,I m' q w/\gz q s/\m'<m from he);omega
  |x j=>exact hK (.x j) s w he a hf
  |r=>exact hK .r s w he a hf
 |succ N ihN =>
  intro m q w a hmN hI hf;refine(h m q w hI).go hX b cs hk (.inLoop c::k) (λe s w he a hf=>?_) a hf;cases e with
  |n=>obtain⟨m',q',h1,h2,h3⟩:=(show ∃m' q,I m' q w/\gz q s/\m'<m from he);exact hX.c.inLoop (ihN m' q' w a (by omega) h1 (hf.sub h2))
  |x j=>exact hK (.x j) s w he a hf
  |r=>exact hK .r s w he a hf
def ab8(Q:Sg->World->Prop)(e:Ex)(s:Sg)(w:World):Prop:=match e with
 |.n=>∃q,gz q s/\Q q w
 |_=>False
theorem CS.piece{Q:Sg->World->Prop}(h:CS P n x (ab8 Q) s w)(hy:∀q w,Q q w->CS P n y K q w):CS P n (.seq x y) K s w:=CS.seq (h.mono λe s w he=>by
 cases e with
 |n=>obtain⟨q,h1,h2⟩:=(show ∃q,gz q s/\Q q w from he);exact(hy q w h2).sub h1
 |x j=>exact he.elim
 |r=>exact he.elim)
theorem CS.cond{o:Operand}(t:Bool)(he:ev s o=some (.bool t))(h:CS P n (bif t then x else y) K s w):CS P n (.cond o x y) K s w:=⟨λhX b cs hk k hK a hf=>by
 refine hX.c.cond t (hf.ev _ _ he) ?_;cases t
 .exact h.go hX b cs hk k hK a hf
 .exact h.go hX b cs hk k hK a hf⟩
def Out(Qn:Sg->World->Prop)(Qx:Nat->Sg->World->Prop)(Qr:Sg->World->Prop)(e:Ex)(s:Sg)(w:World):Prop:=match e with
 |.n=>∃q,gz q s/\Qn q w
 |.x j=>∃q,gz q s/\Qx j q w
 |.r=>∃q,gz q s/\Qr q w
theorem CS.cut{Qn:Sg->World->Prop}{Qx:Nat->Sg->World->Prop}{Qr:Sg->World->Prop}(h:CS P n x (Out Qn Qx Qr) s w)(hn:∀q w,Qn q w->CS P n y K q w)(hx:∀j q s w,Qx j q w->gz q s->K (.x j) s w)(hr:∀q s w,Qr q w->gz q s->K .r s w):CS P n (.seq x y) K s w:=CS.seq (h.mono λe s w he=>by
 cases e with
 |n=>obtain⟨q,h1,h2⟩:=(show ∃q,gz q s/\Qn q w from he);exact(hn q w h2).sub h1
 |x j=>obtain⟨q,h1,h2⟩:=(show ∃q,gz q s/\Qx j q w from he);exact hx j q s w h2 h1
 |r=>obtain⟨q,h1,h2⟩:=(show ∃q,gz q s/\Qr q w from he);exact hr q s w h2 h1)
theorem Dx{E:ng P}:∀{rs:List ResultVar} {L:List Value->Prop},gz q s->zg E w q L rs->zg E w s L rs
 | [],_,_,h=>h
 |.tmp t::r,L,hs,h=>by
  unfold zg at h |-;cases hq:at? q t with
  |none=>rw[hq]at h;exact h.elim
  |some v=>rw[hq]at h;rw[hs.get hq];exact Dx hs h
 |.cell p t::r,L,hs,h=>by
  unfold zg at h |-;cases hq:at? q p with
  |none=>rw[hq]at h;exact h.elim
  |some v =>
   rw[hq]at h;rw[hs.get hq];dsimp only at h |-;unfold ze at h |-;split at h
   .split at h
    .rename_i y hy
     obtain⟨xs,ty,h1,h2⟩:=h;refine⟨xs,ty,h1,?_⟩;cases hS:kQ y with
     |true =>
      rw[hS]at h2;dsimp only[iH]at h2 |-;cases h0:Nat.beq (bD E.T t) 0 with
      |true=>rw[h0]at h2;exact(show False from h2).elim
      |false=>rw[h0]at h2;dsimp only at h2 |-;obtain⟨c,a1,a2,a3⟩:=h2;exact⟨c,a1,a2,Dx hs a3⟩
     |false=>rw[hS]at h2;dsimp only[iH]at h2 |-;obtain⟨v,a1,a2⟩:=h2;exact⟨v,a1,Dx hs a2⟩
    .exact h.elim
   .exact h.elim
theorem qO{E:ng P}{rs:List ResultVar}{Post:Value->World->Prop}(hs:gz q s)(h:zg E w q (IB Post w) rs):yB E rs Post .r s w:=Dx hs h
end
theorem Q8{P:Program}[kD P](E:ng P){f:FuncId}{fn:Func}{c:Code}{args:List Value}{w:World}{Post:Value->World->Prop}(hf:P.funcs[f]?=some fn)(hb:fn.body=some c)(hn:Nat.ble args.length fn.ntmps=true)(h:CS P fn.ntmps c (yB E fn.results.toList Post) (uY args 0) w){main:Bool}{D:World->World->Array Event->Prop}{X:Goroutine->World->Prop}(hX:SX P main D X){cs:List Frame}(hk:∀fr v w',fr.fn=f->fr.leaving P w' (.returned v)->Post v w'->X (G fr cs) w'):X (G (Frame.enter P f args.toArray .normal) cs) w:=by
 rw[enter_at (P:=P) args.toArray hf hb];have hle:=Jc4 hn;refine h.go hX _ cs (by unfold Go.Conc.base;exact nofun) [] ?_ _ ?_
 .intro e s w he a hfit
  have fin:∀todo,zg E w s (IB Post w) fn.results.toList->X (G { (Go.Conc.base f).at a todo with mode:=.returning} cs) w:=by
   intro todo hr;obtain⟨l,h1,h2⟩:=TE _ _ a.tmps hfit.get hr;have hres:(results fn a.tmps).run P w=.ok (if h:l.toArray.size=1 then l.toArray[0]else .tuple l.toArray) w:=by
    have e:results fn a.tmps=(do let vs <- fn.results.mapM (uZ a.tmps);pure (if h:vs.size=1 then vs[0]else .tuple vs)):=by
     unfold results;congr 2
    have e2:(fn.results.mapM (uZ a.tmps)).run P w=.ok l.toArray w:=by
     rw[show fn.results.mapM (uZ a.tmps)=toArray <$> (fn.results.toList.mapM (uZ a.tmps))from Jb7 ..];show Sem.run P ((fn.results.toList.mapM (uZ a.tmps))>>=λl=>pure l.toArray) w=_;rw[Sem.run_bind,h2];rfl
    rw[e,Sem.run_bind,e2];rfl
   refine hk _ (if h:l.toArray.size=1 then l.toArray[0]else .tuple l.toArray) w rfl ⟨rfl,hfit.defers,rfl,fn,hf,hres⟩ ?_;unfold IB at h1;split at h1
   .exact h1
   .rename_i hne
    rw[dif_neg]
    .exact h1
    .intro h1
     simp only[Jf5]at h1;obtain⟨v,rfl⟩:=length_eq_one_iff.1 h1;exact hne v rfl
  cases e with
  |n=>exact hX.c.fin (fin [] he)
  |x j=>exact he.elim
  |r=>exact λtodo=>fin todo he
 .refine⟨rfl,?_,λi v hi=>?_⟩
  .simp;omega
  .obtain⟨d,h1,h2⟩:=zZ hi
   rw[Jbh]at h1;subst h1;have hlt:i<args.length:=(Jcn.1 h2).1;rw[Jcx];show(((args.toArray++Array.replicate _ undef)[i]?).getD undef)=v;rw[Jfg (by simpa using hlt)];simp[h2]
theorem qh{P:Program}(E:ng P){f:FuncId}{fn:Func}{c:Code}{args:List Value}{w:World}{Post:Value->World->Prop}(hf:P.funcs[f]?=some fn)(hb:fn.body=some c)(hn:Nat.ble args.length fn.ntmps=true)(h:CS P fn.ntmps c (yB E fn.results.toList Post) (uY args 0) w):gU P f args.toArray w Post :=
 λ_ _ _ _ hX hk=>Q8 E hf hb hn h ⟨hX,trivial⟩ hk
def ig(A:aI)(R:MR)(c:MC):MR:=if 60<=R.sc.next\/lT R.props c=true\/lT R.known c=true then R else iK A {R with sc:={R.sc with next:=R.sc.next+1} } R.sc.next c
section
variable{A:aI}(HA:bG A)
include HA
theorem Ok.offer{R:MR}(ho:Ok A R){c:MC}(hgc:A.gc c):Ok A (ig A R c)/\(ig A R c).out.length<=R.out.length+315/\(ig A R c).sc.i=R.sc.i/\(ig A R c).sc.sz=R.sc.sz:=by
 unfold ig;split
 .exact⟨ho,by omega,rfl,rfl⟩
 .rename_i h
  have tJ:R.sc.next<60:=by omega
  have o2:Ok A {R with sc:={R.sc with next:=R.sc.next+1} }:=⟨ho.sz,ho.i,ho.st,ho.kn,ho.pp,ho.vt,ho.wv,ho.mt,ho.ac,ho.pr,ho.lg,ho.lc,by show R.sc.next+1<=60;omega,ho.sn⟩;exact o2.prop HA tJ hgc
variable{Λ:bW}{w:World}{br:Nat}{R:MR}
theorem Fa(h:Wk Λ br R w)(ho:Ok A R){c:MC}(hgc:A.gc c){cv:Value}(hc:kF w cv c)(hb:R.out.length<=870000):CY 137 #[Ptt br,cv] w (λv w'=>v=.tuple #[]/\Wk Λ br (ig A R c) w'/\Kz w w'):=by
 obtain⟨rv,dv,rfl,hr⟩:=hc;refine aj Tryz.func137 rfl rfl ?_;intro w1 b1 m1 g1 l1;obtain⟨a,h⟩:=h;have h1:=h.box g1 m1 l1;have u1:=h.rU l1;have hnx:=ho.nx;refine⟨by kernel_rfl,_,_,h1.ri.mem,_,rfl,ah (λd=>?_) (λd=>?_)⟩
 .have d1:R.sc.next<60:=by simp at d;omega
  have hc1:kF w1 (.agg (dF c rv dv).toArray) c:=⟨_,_,rfl,hr.kz g1.kz⟩;refine⟨_,_,h1.ri.mem,_,rfl,_,_,m1,dF c rv dv,rfl,rfl,_,E8 h1.ri.pp (λk d h=>(ho.pp k d h).2) hc1,?_⟩;rintro _ w2 ⟨rfl,g2⟩;have h2:=h1.ay g2;have m2:=g2.get m1 nofun;refine⟨⟨m2,h2.ri.mem,h2.ri.mem,trivial⟩,ah (λe=>?_) (λe=>?_)⟩
  .have e1:lT R.props c=false:=eq_of_beq e
   refine⟨⟨_,_,h2.ri.mem,_,rfl,_,_,m2,dF c rv dv,rfl,rfl,_,E8 h2.ri.kn (λk d h=>(ho.kn k d h).2) (hc1.kz g2.kz),?_⟩,⟨_,_,m2,dF c rv dv,rfl,rfl,_,_,h2.ri.mem,_,rfl,_,E8 h2.ri.kn (λk d h=>(ho.kn k d h).2) (hc1.kz g2.kz),?_⟩⟩;all_goals
    rintro _ w3 ⟨rfl,g3⟩;have h3:=h2.ay g3;have m3:=g3.get m2 nofun;have kk:=((g1.trans g2).trans g3).kz;refine ah (λe'=>?_) (λe'=>?_)
    .have e2:lT R.known c=true:=e'
     have em:ig A R c=R:=Jb6 (.inr (.inr e2));rw[em];exact⟨rfl,Wk.drop ⟨_,h3⟩ u1,kk⟩
    .have e2:lT R.known c=false:=e'
     have em:ig A R c=iK A {R with sc:={R.sc with next:=R.sc.next+1} } R.sc.next c:=Jb5 (by rw[e1,e2];simp;omega);rw[em];refine⟨_,_,h3.ri.mem,_,rfl,_,_,h3.ri.mem,_,rfl,by omega,_,_,_,h3.ri.mem,rfl,rfl,λw4 m4 g4=>?_⟩;have h4:=h3.cell (s':={R.sc with next:=R.sc.next+1}) m4 g4;have k4:=h3.ri.kz h3.ri.jy g4;have m5:=(h4.pr b1 _ (bW.zi _ _ _)).1;have o4:Ok A {R with sc:={R.sc with next:=R.sc.next+1} }:=⟨ho.sz,ho.i,ho.st,ho.kn,ho.pp,ho.vt,ho.wv,ho.mt,ho.ac,ho.pr,ho.lg,ho.lc,by show R.sc.next+1<=60;omega,ho.sn⟩;have hc4:kF w4 (.agg (dF c rv dv).toArray) c:=⟨_,_,rfl,(hr.kz kk).kz k4⟩;refine⟨_,_,m5,dF c rv dv,rfl,rfl,_,IG HA (Wk.drop ⟨_,h4⟩ u1) o4 d1 hgc hc4 hb,?_⟩;rintro _ w5 ⟨rfl,h5,k5⟩;exact⟨rfl,h5,(kk.trans k4).trans k5⟩
  .have e1:lT R.props c=true:=by cases h:lT R.props c;rw[h]at e;cases e;rfl
   have em:ig A R c=R:=Jb6 (.inr (.inl e1));rw[em];exact⟨⟨rfl,Wk.drop ⟨_,h2⟩ u1,(g1.trans g2).kz⟩,⟨rfl,Wk.drop ⟨_,h2⟩ u1,(g1.trans g2).kz⟩⟩
 .have d1:60<=R.sc.next:=by simp at d;omega
  have em:ig A R c=R:=Jb6 (.inl d1);rw[em];exact⟨rfl,Wk.drop ⟨_,h1⟩ u1,g1.kz⟩
end
end
