/- Lemmas. -/
import Derived.Test.YtignemioillaiabGreatG33
import Derived.Lib.Overlaps
namespace Go.Proofs.YtignemioillaiabGreat
set_option maxHeartbeats 8000000
set_option maxRecDepth 100000
open List
section
open Go Go.Conc
section
variable{w:World}{b:Nat}{s:St}{T M D O I:Value}
theorem MO(hm:Hl w b (iP s T M D O I) 55)(hT:Fz w 139 2 T s.T.length (s.T.map Row.cells).flatten)(hl:s.T.length<=1000000)(hs:fT s.T)(key:Int):CY 188 #[Ptt b,.int .u64 key] w (λx w'=>x=.tuple #[.int .i64 (uT s.T key:Nat),.bool (iV s.T key)]/\GB none w w'):=by
 refine aj Tryz.func188 rfl rfl ?_;refine⟨_,_,hm,_,rfl,_,acK hT hl (Kv hs key),?_⟩;rintro _ w1 ⟨rfl,g1⟩;exact⟨rfl,g1⟩
theorem Uz(hm:Hl w b (iP s T M D O I) 55)(hD:Fz w 70 7 D s.D.length (s.D.map ag.cells).flatten)(hl:s.D.length<=1000000)(hs:iM s.D)(q:ag):CY 101 #[Ptt b,.agg q.cells.toArray] w (λx w'=>x=.tuple #[.int .i64 (xV s.D q:Nat),.bool (Fg s.D q)]/\GB none w w'):=by
 refine aj Tryz.func101 rfl rfl ?_;refine λw1 b1 m1 g1 l1=>?_
 refine⟨by kernel_rfl,_,_,g1.get hm nofun,_,rfl,_,_,m1,q.cells,rfl,rfl,_,acL (hD.kz g1.kz (by decide)) hl (Rh hs q),?_⟩;rintro _ w2 ⟨rfl,g2⟩;exact⟨rfl,g1.trans g2⟩
theorem sK{α:Type}{f:α->Int}{l:List α}(h:mU f l=true):∃x,l[dM f l]?=some x/\f x=0:=by
 unfold mU at h;cases hx:l[dM f l]? with
 |none=>rw[hx]at h;cases h
 |some x=>rw[hx]at h;exact⟨x,rfl,by simpa using h⟩
theorem acM(hm:Hl w b (iP s T M D O I) 55)(hT:Fz w 139 2 T s.T.length (s.T.map Row.cells).flatten)(hl:s.T.length<=1000000)(hs:fT s.T)(key:Int):CY 159 #[Ptt b,.int .u64 key] w (λx w'=>x=.tuple #[.int .u64 (oN s.T key),.bool (iV s.T key)]/\GB none w w'):=by
 refine aj Tryz.func159 rfl rfl ?_;refine⟨_,MO hm hT hl hs key,?_⟩;rintro _ w1 ⟨rfl,g1⟩;unfold oN;obtain⟨a,ha⟩:∃a,iV s.T key=a:=⟨_,rfl⟩;rw[ha];cases a
 .exact⟨rfl,g1⟩
 .obtain⟨x,hx,_⟩:=sK ha
  have hi:uT s.T key<s.T.length:=(Jcn.1 hx).1;obtain⟨ta,tc,rfl,h1,h2,h3⟩:=hT;rcases h3 with⟨_,hz⟩|⟨g,off,cs,rfl,hb,hcut⟩
  .omega
  have hc:=og (f:=Row.cells) (λ_=>rfl) hx hcut;refine⟨_,_,g1.get hm nofun,_,rfl,by omega,_,_,g1.get hb nofun,.int .u64 x.val,iU hc rfl (by decide),?_⟩;exact⟨by rw[show s.T[uT s.T key]?=some x from hx];rfl,g1⟩
theorem Oj(hm:Hl w b (iP s T M D O I) 55)(hM:Bl w M s.M)(hok:jK s.M=true)(Cx:Can s.M){lo hi:Int}(h0:0<=lo):CY 100 #[Ptt b,.int .u64 lo,.int .u64 hi] w (λx w'=>x=.tuple #[.int .u8 (yE s.M s.g lo hi),.bool (yF s.M s.g lo hi)]/\GB none w w'):=by
 refine aj Tryz.func100 rfl rfl ?_;have Mx:=Cw hok;refine⟨_,_,hm,_,rfl,_,IK hM hok Cx h0,?_⟩;rintro _ w1 ⟨rfl,g1⟩;unfold yE yF;refine⟨_,_,g1.get hm nofun,_,rfl,ah (λc=>?_) (λc=>?_)⟩
 .have c1:own 0 s.M lo≠s.g:=by simpa using c
  rw[Jb6 c1,Jb6 c1];exact⟨rfl,g1⟩
 .have c1:¬own 0 s.M lo≠s.g:=by simpa using c
  rw[Jb5 c1,Jb5 c1];have hM1:Bl w1 M s.M:=hM.kz g1.kz (by decide);obtain⟨a,c,rfl,hc,hl,hv⟩:=hM1;refine⟨_,_,g1.get hm nofun,_,rfl,?_⟩;refine⟨λn t wk=>∃i:Nat,n=s.M.length-i/\i<=s.M.length/\t=[(1,.int .u64 lo),(2,.int .u64 hi),(31,.slice a s.M.length c),(32,.int .i64 s.M.length),(33,.int .i64 i)]/\s.M.find? (zq lo hi)=(s.M.drop i).find? (zq lo hi)/\GB none w1 wk,⟨_,_,⟨0,rfl,Jcm _,rfl,rfl,GB.refl _ _⟩,sb rfl⟩,?_⟩;rintro n t wk ⟨i,rfl,hi',rfl,hf,P⟩;refine ah (λd=>?_) (λd=>?_)
  .have d1:i<s.M.length:=by have:=Ptq d;omega
   rcases hv with⟨_,hz⟩|⟨b,off,cs,rfl,hb,hcut⟩
   .omega
   obtain⟨y,hy⟩:∃y,s.M[i]?=some y:=⟨s.M[i],by simp[d1]⟩;rw[Jch d1,show s.M[i]=y from(Jcn.1 hy).2,find?_cons]at hf;refine⟨by omega,_,_,P.get hb nofun,y.cells,og (f:=Pc.cells) (λ_=>rfl) hy hcut,rfl,λw2 b2 m2 g2 l2=>⟨_,_,_,m2,rfl,rfl,λw3 m3 g3=>?_⟩⟩;have G:=P.trans (g2.new g3 l2);refine⟨_,_,m3,_,rfl,ah (λe=>?_) (λe=>?_)⟩
   .have e1:=Ptq (b11 e)
    refine⟨_,_,m3,_,rfl,ah (λq=>?_) (λq=>?_)⟩
    .have q1:=Ptq q
     have z:zq lo hi y=true:=by simp[zq];omega
     rw[z]at hf;rw[hf];exact⟨_,_,m3,_,rfl,rfl,g1.trans G⟩
    .have q1:=Ptx q
     have z:zq lo hi y=false:=by simp[zq];omega
     exact⟨by omega,_,_,⟨i+1,rfl,by omega,rfl,by rw[hf,z],G⟩,(sb rfl),by omega⟩
   .have e1:=Ptx (b10 e)
    have z:zq lo hi y=false:=by simp[zq];omega
    exact⟨by omega,_,_,⟨i+1,rfl,by omega,rfl,by rw[hf,z],G⟩,(sb rfl),by omega⟩
  .have d1:i=s.M.length:=by have:=Ptx d;omega
   rw[d1,drop_length]at hf;rw[hf];exact⟨rfl,g1.trans P⟩
theorem Xd(w:World)(hM:Bl w M s.M)(hok:jK s.M=true)(Cx:Can s.M)(hO:∃a c,O=.slice a s.O.length c)(hI:∃a c,I=.slice a s.I.length c)(hT:∃a n c,T=.slice a n c)(hD:∃a n c,D=.slice a n c)(hg:s.g<s.n)(hn:s.n<=4)(hn0:0<=s.n)(hol:(s.O.length:Int)=s.n)(hil:(s.I.length:Int)=s.n):CY 60 #[.agg (iP s T M D O I).toArray] w (λx w'=>x=.bool true/\GB none w w'):=by
 obtain⟨oa,oc,rfl⟩:=hO;obtain⟨ia,ic,rfl⟩:=hI;obtain⟨ta,tn,tc,rfl⟩:=hT;obtain⟨da,dn,dc,rfl⟩:=hD;have hM0:=hM;obtain⟨ma,mc,rfl,_⟩:=hM;refine aj Tryz.func60 rfl rfl ?_;refine λw1 b1 m1 g1 l1=>⟨_,_,m1,_,rfl,_,IK (hM0.kz g1.kz (by decide)) hok Cx (Jfb 0),?_⟩
 rintro _ w2 ⟨rfl,g2⟩;have m1:=g2.get m1 nofun;have G:=g1.trans g2;refine⟨_,_,m1,_,rfl,.inl ⟨by omega,?_⟩⟩;refine⟨_,_,m1,_,rfl,_,_,m1,_,rfl,ah (λe=>?_) (λe=>?_)⟩
 .refine⟨_,_,m1,_,rfl,ah (λe=>?_) (λe=>?_)⟩
  .refine⟨_,_,m1,_,rfl,?_⟩
   exact⟨vb (by simpa using hil),G⟩
  .exact absurd hol (by have:=b10 e;simpa using this)
 .have:=Ptx (b10 e)
  omega
end
theorem addr_add(b k:Nat):(⟨b,0,none⟩:Addr).add k=⟨b,k,none⟩:=by
 unfold Addr.add;split
 .rename_i h;rw[h]
 .rw[Jbh]
theorem sN{b c i k n d:Nat}(h:¬c=i):Value.slice (if c=i then some ⟨b,0,none⟩else Option.map (λx:Addr=>x.add k) (some ⟨b,0,none⟩)) n d=.slice (some ⟨b,k,none⟩) n d:=by
 rw[Jb5 h,Jbb,addr_add]
theorem zx{α:Type}{f:α->List Value}{size:Nat}(hf:∀x,(f x).length=size):∀(l:List α) (i:Nat),(l.map f).flatten.take (i*size)=((l.take i).map f).flatten
 | [],i=>by simp
 |x::l,0=>by simp
 |x::l,i+1=>by
  rw[take_succ_cons,Jcj,Jcj,Jfw,Jfw,take_append,hf,Jd2 (by rw[hf,Jfk];omega),show(i+1)*size-size=i*size by rw[Jfk];omega,zx hf l i]
theorem wB{α:Type}{f:α->List Value}{size:Nat}(hf:∀x,(f x).length=size):∀(l:List α) (i:Nat),(l.map f).flatten.drop (i*size)=((l.drop i).map f).flatten
 | [],i=>by simp
 |x::l,0=>by simp
 |x::l,i+1=>by
  rw[drop_succ_cons,Jcj,Jfw,drop_append,hf,Jgc (by rw[hf,Jfk];omega),nil_append,show(i+1)*size-size=i*size by rw[Jfk];omega,wB hf l i]
theorem rz{α:Type}{f:α->List Value}{size:Nat}(hf:∀x,(f x).length=size):∀(l:List α),(l.map f).flatten.length=l.length*size
 | []=>by simp
 |x::l=>by rw[Jcj,Jfw,Jc6,hf,rz hf l,length_cons,Jfk];omega
theorem Xe{α:Type}{f:α->List Value}{size:Nat}(hf:∀x,(f x).length=size)(l:List α)(i:Nat)(x:α):((pV l i x).map f).flatten=(l.map f).flatten.take (i*size)++f x++(l.map f).flatten.drop (i*size):=by
 rw[zx hf,wB hf,pV,Jda,Jcj,Jfr,Jfw,Jd4]
theorem oP{α:Type}(l:List α)(i:Nat)(x:α):(pV l i x).length=l.length+1:=by
 unfold pV;rw[Jc6,length_cons,Jd6,Jf7];omega
theorem acN{cs A B X R:List Value}{k:Nat}(h:cs=A++(B++R))(hk:X.length=k)(hR:k<=R.length){cs1:List Value}(h1:cs1=cs.take (A.length+k)++B++cs.drop (A.length+k+B.length)):cs1.take A.length++X++cs1.drop (A.length+k)=A++X++B++cs.drop (A.length+k+B.length):=by
 have hl:cs.length=A.length+(B.length+R.length):=by rw[h,Jc6,Jc6]
 have ht:(cs.take (A.length+k)).length=A.length+k:=by rw[Jd6];omega
 have e1:cs1.take A.length=A:=by
  rw[h1,Jd4,Jd3 (by omega),Jd5,Jd7 (by omega),h,take_left'];rfl
 have e2:cs1.drop (A.length+k)=B++cs.drop (A.length+k+B.length):=by
  rw[h1,Jd4,drop_left' ht]
 rw[e1,e2];simp
theorem ahg{cs A B X:List Value}{k:Nat}(h:cs.take A.length=A)(hk:X.length=k)(_hl:A.length+k+B.length<=cs.length){cs1:List Value}(h1:cs1=cs.take A.length++X++cs.drop (A.length+k)):cs1.take (A.length+k)++B++cs1.drop (A.length+k+B.length)=A++X++B++cs.drop (A.length+k+B.length):=by
 have e0:cs1=(A++X)++cs.drop (A.length+k):=by rw[h1,h]
 have e1:(A++X).length=A.length+k:=by rw[Jc6,hk]
 rw[e0,take_left' e1,drop_append,e1,Jgc (by rw[e1];omega),nil_append,drop_drop,show A.length+k+(A.length+k+B.length-(A.length+k))=A.length+k+B.length by omega]
theorem Pq{w:World}{e size n i:Nat}{g cap:Nat}{xs:List Value}(h:w.ownsRow 0 e size (.slice (Pty g) n cap) n xs)(hi:i<=n):w.ownsRow 0 e size (.slice (Pty g) i cap) i (xs.take (i*size)):=by
 rcases h.2 with⟨q,_⟩|⟨g',cap',cur,q,h0,h2,h3,h4,h5,h6⟩
 .cases q
 injection q with q1 _ q3;injection q1 with q1;injection q1 with q1;subst q1 q3;have hm:i*size<=n*size:=Jcr _ hi;refine⟨by rw[Jd6,h.1];omega,.inr ⟨g,cap,cur,rfl,h0,h2,by omega,h4,h5,?_⟩⟩;rw[<-h6,Jd5,Jd7 hm]
theorem MP{f:FuncId}{args:Array Value}{e:Array Value->Sem Value}(hrow:∀(w:World) (es:Array Event),(callFunc f args).runT Tryz.prog w es=(do mark (.extern f);pure (Next.value (<-e args)):Sem Next).runT Tryz.prog w es)(hp:Plain [] (e args)){w:World}{v:Value}(hrun:(e args).run Tryz.prog w=.ok v w):aK Tryz.prog (callFunc f args) w/\(callFunc f args).run Tryz.prog w=.ok (.value v) w:=by
 have hp':Plain [] (do mark (.extern f);pure (Next.value (<-e args)):Sem Next):=Plain.bind' (s:=mark (.extern f)) ⟨trivial,trivial⟩ λ_=>Plain.bind' hp λ_=>az _
 have h1:=aK.plain (P:=Tryz.prog) hp' w;have e1:∀es,(callFunc f args).events Tryz.prog w es=(do mark (.extern f);pure (Next.value (<-e args)):Sem Next).events Tryz.prog w es:=λes=>congrArg Prod.snd (hrow w es)
 have e2:(callFunc f args).run Tryz.prog w=(do mark (.extern f);pure (Next.value (<-e args)):Sem Next).run Tryz.prog w:=(Sem.runT_fst _ _ w #[]).symm.trans ((congrArg Prod.fst (hrow w #[])).trans (Sem.runT_fst _ _ w #[]));refine⟨⟨by rw[e1];exact h1.1,by rw[e2];exact h1.2⟩,?_⟩;rw[e2];show(Sem.bind (mark (.extern f)) λ_=>Sem.bind (e args) λx=>pure (Next.value x)).run Tryz.prog w=_;have e3:(Sem.bind (e args) λx=>pure (Next.value x)).run Tryz.prog w=.ok (.value v) w:=by
  show((e args)>>=λx=>pure (Next.value x)).run Tryz.prog w=_;rw[Sem.run_bind,hrun];rfl
 exact e3
theorem acO{w:World}{vb g off lb cb:Nat}{nw:Array Value}{cur:Array Value}(hvb:w.heap[vb]?=some (.cells nw 139))(hnl:nw.size=2)(hg:w.heap[g]?=some (.cells cur 139))(hcs:2<=cur.size)(hne:vb≠g):aK Tryz.prog (callFunc 202 #[.slice (Pty vb) 1 1,.slice (some ⟨g,off,none⟩) lb cb]) w/\(callFunc 202 #[.slice (Pty vb) 1 1,.slice (some ⟨g,off,none⟩) lb cb]).run Tryz.prog w=.ok (.value (.bool false)) w:=by
 obtain⟨y,hy⟩:∃y,fG.T.get 139=some y:=⟨_,rfl⟩;obtain⟨i2,d2,t2⟩:=fG.tab.ok.is hy;have hsz:i2.size=2:=t2.size.trans (by kernel_rfl);have hu:Tryz.prog.underlying 49=some (.slice 139):=by kernel_rfl
 refine MP (λw es=>KX (fn:=Tryz.f202) (by kernel_rfl) (by kernel_rfl) (by kernel_rfl) (by kernel_rfl) (e:=Extern.SlicesOverlaps.overlaps #[49,49] #[4]) (by kernel_rfl) _ w es) (Ec _ _ _) ?_;exact Lib.run_overlaps_apart w 49 4 139 hu 2 (λw=>by simp[sizeOf,typeInfo,t2.info,hsz]) ⟨vb,0,none⟩ ⟨g,off,none⟩ 1 1 lb cb hne 139 139 2 cur.size (by simp[World.shape?,hvb,hnl]) (by simp[World.shape?,hg]) (by omega) (by simp[World.frozen?,hvb]) (by simp[World.frozen?,hvb])
theorem acP{w:World}{vb g off lb cb:Nat}{nw:Array Value}{cur:Array Value}(hvb:w.heap[vb]?=some (.cells nw 70))(hnl:nw.size=7)(hg:w.heap[g]?=some (.cells cur 70))(hcs:7<=cur.size)(hne:vb≠g):aK Tryz.prog (callFunc 204 #[.slice (Pty vb) 1 1,.slice (some ⟨g,off,none⟩) lb cb]) w/\(callFunc 204 #[.slice (Pty vb) 1 1,.slice (some ⟨g,off,none⟩) lb cb]).run Tryz.prog w=.ok (.value (.bool false)) w:=by
 obtain⟨y,hy⟩:∃y,fG.T.get 70=some y:=⟨_,rfl⟩;obtain⟨i2,d2,t2⟩:=fG.tab.ok.is hy;have hsz:i2.size=7:=t2.size.trans (by kernel_rfl);have hu:Tryz.prog.underlying 51=some (.slice 70):=by kernel_rfl
 refine MP (λw es=>KX (fn:=Tryz.f204) (by kernel_rfl) (by kernel_rfl) (by kernel_rfl) (by kernel_rfl) (e:=Extern.SlicesOverlaps.overlaps #[51,51] #[4]) (by kernel_rfl) _ w es) (Ec _ _ _) ?_;exact Lib.run_overlaps_apart w 51 4 70 hu 7 (λw=>by simp[sizeOf,typeInfo,t2.info,hsz]) ⟨vb,0,none⟩ ⟨g,off,none⟩ 1 1 lb cb hne 70 70 7 cur.size (by simp[World.shape?,hvb,hnl]) (by simp[World.shape?,hg]) (by omega) (by simp[World.frozen?,hvb]) (by simp[World.frozen?,hvb])
theorem UA{α:Type}{f:α->List Value}{k T:Nat}{w:World}{v:Value}{l:List α}(h:w.ownsRow 0 T k v l.length (l.map f).flatten)(hf:∀x,(f x).length=k)(ho:∀x,(f x).all one=true){i:Nat}(hi:i<=l.length)(x:α):∃A B,A=(l.map f).flatten.take (i*k)/\A.length=i*k/\B.length=(l.length-i)*k/\(l.map f).flatten=A++B/\((pV l i x).map f).flatten=A++f x++B/\(f x).length=k/\B.all one=true/\∀cur:List Value,cur.take (l.length*k)=(l.map f).flatten->aG cur (i*k) ((l.length-i)*k)=B:=by
 have hm:i*k<=l.length*k:=Jcr _ hi;refine⟨_,(l.map f).flatten.drop (i*k),rfl,by rw[Jd6,h.1];omega,by rw[Jf7,h.1,Nat.sub_mul],(Jgk _ _).symm,Xe hf _ _ _,hf x,by rw[wB hf];exact kY ho _,λcur hc=>?_⟩;rw[<-hc];unfold aG;rw[Jfj,Nat.sub_mul]
abbrev Ins(α:Type)(f:α->List Value)(T k F:Nat):Prop:=∀{w0 w:World} {v:Value} {l:List α} (_:LN T k w0 w v l.length (l.map f).flatten) (_:l.length<=100000) {i:Nat} (_:i<=l.length) {x:α} {vb:Nat} (_:Hl w vb (f x) T) (_:v.ownBlock≠some vb),CY F #[v,.int .i64 i,.slice (Pty vb) 1 1] w (λv' w'=>LN T k w0 w' v' (pV l i x).length ((pV l i x).map f).flatten/\GB v.ownBlock w w'/\∀g,v'.ownBlock=some g->v.ownBlock=some g\/w.heap.size<=g)
theorem MS:Ins Row Row.cells 139 2 189/\Ins ag ag.cells 70 7 193:=by
 constructor<;>intro w0 w v l h hl i hi x vb hvb hne
 all_goals
  have hcap:∃a c,v=.slice a l.length c/\l.length<=c:=by
   rcases h.own.2 with⟨q,h0⟩|⟨g,cap,cur,q,_,_,h3,_⟩
   .exact⟨none,0,by rw[q,h0],by omega⟩
   .exact⟨_,_,q,h3⟩
  obtain⟨va,vc,rfl,hvc⟩:=hcap;have hsz:=h.own.1
 have ov:=@acO;refine aj Tryz.func189 rfl rfl ?_;rotate_left
 have ov:=@acP;refine aj Tryz.func193 rfl rfl ?_;rotate_left
 all_goals
  refine⟨⟨by omega,by omega,by omega⟩,?_⟩;refine ah (λd=>?_) (λd=>?_)
  .have d1:i=l.length:=by have:=eq_of_beq d;omega
   subst d1;refine⟨_,x.cells,h.own,⟨_,_,hvb,rfl,rfl,rfl⟩,by omega,λv' w2 ho g n=>?_⟩;have hin:pV l l.length x=l++[x]:=by unfold pV;rw[Jfn,drop_length]
   refine⟨?_,g,n⟩;rw[hin,Jc6,Jda,Jfr];simpa using h.app ho g n
  have d1:i<l.length:=by
   have:¬(i:Int)=l.length:=by simpa using d
   omega
  obtain⟨g,cap,cur,ev,aR,htk,hsz2,hcap⟩:=j5 h.own (by omega);injection ev with ea _ ec;subst ea ec;have hown:=h.own;rcases h.own.2 with⟨q,_⟩|⟨g',cap',cur',q,h0,h2,h3,h4,h5,h6⟩
  .cases q
  injection q with q1 _ q3;injection q1 with q1;injection q1 with q1;subst q1 q3;rw[aR]at h2;injection h2 with h2;injection h2 with h2 _;subst h2;have hgn:g≠vb:=λe=>hne (by rw[e];rfl)
  have hlt:=ae aR;have hnew:=h.new g rfl;obtain⟨A,B,hA,CG,hBl,hAB,hres,hxl,hBo,KA⟩:=UA h.own (λ_=>rfl) (λ_=>rfl) hi x;replace KA:=KA _ htk;refine⟨by omega,ah (λe=>?_) (λe=>?_)⟩
  .have e1:vc=l.length:=by have:=Ptq e;omega
   refine⟨by omega,by omega,by omega,_,Pq hown (Jft d1),by omega,by omega,by omega,λb2 cap2 nP w2 m2 hs2 ht2 hc2 hm2 g2 l2=>?_⟩;replace hs2:nP.size=cap2*x.cells.length:=hs2;rw[hxl]at hs2;replace ht2:nP.toList.take A.length=A:=by
    rw[CG,hA];exact ht2
   have ajF:((i:Int)).toNat+((l.length:Int)+1-i).toNat=l.length+1:=by omega
   have hcc:l.length+1<=cap2:=by omega
   have hcap2:¬cap2=i:=by omega
   have hnb:b2≠g:=by omega
   have ahh:=g2.get hvb nofun;have hg2:=g2.get aR nofun;have hbv:b2≠vb:=by have:=ae hvb;omega
   refine⟨⟨by omega,by omega,by omega⟩,?_⟩;rw[sN (show ¬cap2=((i:Int)).toNat from hcap2)];have hmin:∀k,1<=k->Nat.min 1 k=1:=λk hk=>Jd7 hk
   refine⟨_,_,x.cells,m2,⟨_,_,ahh,by rw[hmin _ (by omega)];rfl,by rw[hmin _ (by omega)];rfl,rfl⟩,by show i*x.cells.length+x.cells.length<=_;rw[hxl];omega,λw3 m3 g3=>?_⟩;replace m3:Hl w3 b2 (nP.toList.take (i*x.cells.length)++x.cells++nP.toList.drop (i*x.cells.length+x.cells.length)) _:=m3;rw[show i*x.cells.length=A.length from CG.symm]at m3;have hg3:=g3.get hg2 λz=>hnb (Jbm z).symm
   refine⟨by kernel_rfl,by omega,⟨by omega,by omega,by omega⟩,⟨by omega,by omega,by omega⟩,?_⟩;rw[sN (show ¬cap2=((i:Int)+((1:Nat):Int)).toNat by omega),sN (show ¬vc=((i:Int)).toNat by omega)];have GX:Nat.min (l.length-((i:Int)).toNat) (((i:Int)).toNat+((l.length:Int)+((1:Nat):Int)-i).toNat-((i:Int)+((1:Nat):Int)).toNat)=l.length-i:=by
    rw[show((i:Int)).toNat+((l.length:Int)+((1:Nat):Int)-i).toNat-((i:Int)+((1:Nat):Int)).toNat=l.length-i by omega,Jfa];exact Nat.min_self _
   refine⟨_,_,B,m3,⟨_,_,hg3,?_,?_,hBo⟩,?_,λw4 m4 g4=>?_⟩
   .rw[GX];exact KA
   .rw[GX];exact hBl
   .show((i:Int)+((1:Nat):Int)).toNat*x.cells.length+B.length<=_
    simp only[Jf5,Jc6,Jd6,Jf7,Array.length_toList,hBl,hxl,CG];omega
   have e2:((i:Int)+((1:Nat):Int)).toNat*x.cells.length=A.length+x.cells.length:=by rw[CG,hxl];omega
   have hfin:=ahg (cs:=nP.toList) (A:=A) (B:=B) (X:=x.cells) (k:=x.cells.length) ht2 rfl (by have:nP.toList.length=nP.size:=Array.length_toList;omega) rfl;replace m4:Hl w4 b2 ((nP.toList.take A.length++x.cells++nP.toList.drop (A.length+x.cells.length)).take (((i:Int)+((1:Nat):Int)).toNat*x.cells.length)++B++(nP.toList.take A.length++x.cells++nP.toList.drop (A.length+x.cells.length)).drop (((i:Int)+((1:Nat):Int)).toNat*x.cells.length+B.length)) _:=m4;rw[e2,hfin]at m4;have G4:GB none w w4:=(g2.new g3 l2).new g4 l2;refine⟨⟨⟨?_,.inr ⟨b2,cap2,_,congrArg (λz=>Value.slice (Pty b2) z cap2) (by rw[oP];omega),Jcm _,m4,?_,hm2,?_,?_⟩⟩,h.gb.trans G4,λy hy=>?_⟩,G4.weak,λy hy=>.inr ?_⟩
   .refine rz (λ_=>?_) _;rfl
   .rw[oP];exact hcc
   .simp only[Jf5,Jc6,Jf7,Array.length_toList,hBl,hxl,CG]
    omega
   .rw[hres,oP]
    show(A++x.cells++B++_).take _=_;rw[take_left'];rw[Jc6,Jc6,CG,hBl,hxl];omega
   .have:b2=y:=by simpa[Value.ownBlock]using hy
    have:=h.gb.size;omega
   .have:b2=y:=by simpa[Value.ownBlock]using hy
    omega
  .have e1:l.length+1<=vc:=by have:=Ptx e;omega
   refine⟨by omega,by omega,?_⟩;refine⟨by omega,⟨by omega,by omega,by omega⟩,?_⟩;rw[sN (show ¬vc=((i:Int)+((1:Nat):Int)).toNat by omega)];refine⟨_,λw₁ hs=>⟨ov (by rw[hs.heap];exact hvb) rfl (by rw[hs.heap];exact aR) (by omega) hgn.symm,?_⟩⟩;have gs:GB none w w₁:=(GB.refl none w).same hs;have YF:=gs.get aR nofun;have ahi:=gs.get hvb nofun;refine⟨by kernel_rfl,by omega,⟨by omega,by omega,by omega⟩,⟨by omega,by omega,by omega⟩,?_⟩;rw[sN (n:=((l.length:Int)+((1:Nat):Int)).toNat-((i:Int)+((1:Nat):Int)).toNat) (show ¬vc=((i:Int)+((1:Nat):Int)).toNat by omega),sN (n:=((l.length:Int)+((1:Nat):Int)).toNat-((i:Int)).toNat) (show ¬vc=((i:Int)).toNat by omega)];have GX:Nat.min (((l.length:Int)+((1:Nat):Int)).toNat-((i:Int)).toNat) (((l.length:Int)+((1:Nat):Int)).toNat-((i:Int)+((1:Nat):Int)).toNat)=l.length-i:=by
    rw[show((l.length:Int)+((1:Nat):Int)).toNat-((i:Int)+((1:Nat):Int)).toNat=l.length-i by omega];exact Nat.min_eq_right (by omega)
   have hi2:((i:Int)+((1:Nat):Int)).toNat*x.cells.length=A.length+x.cells.length:=by rw[CG,hxl];omega
   have hcl:cur.toList.length=cur.size:=Array.length_toList;refine⟨_,_,B,YF,⟨_,_,YF,?_,?_,hBo⟩,?_,λw4 m4 g4=>?_⟩
   .rw[GX];exact KA
   .rw[GX];exact hBl
   .show((i:Int)+((1:Nat):Int)).toNat*x.cells.length+B.length<=_
    rw[hBl,hxl];omega
   replace m4:Hl w4 g (cur.toList.take (((i:Int)+((1:Nat):Int)).toNat*x.cells.length)++B++cur.toList.drop (((i:Int)+((1:Nat):Int)).toNat*x.cells.length+B.length)) _:=m4;rw[hi2]at m4;have ahj:=g4.get ahi λz=>hgn (Jbm z).symm
   refine⟨⟨by omega,by omega,by omega⟩,?_⟩;rw[sN (n:=((l.length:Int)+((1:Nat):Int)).toNat-((i:Int)).toNat) (show ¬vc=((i:Int)).toNat by omega)];have hmin:∀k,1<=k->Nat.min 1 k=1:=λk hk=>Jd7 hk
   have hl1:(cur.toList.take (A.length+x.cells.length)++B++cur.toList.drop (A.length+x.cells.length+B.length)).length=cur.size:=by
    rw[Jc6,Jc6,Jd6,Jf7,hcl,hBl,CG,hxl];omega
   refine⟨_,_,x.cells,m4,⟨_,_,ahj,by rw[hmin _ (by omega)];rfl,by rw[hmin _ (by omega)];rfl,rfl⟩,?_,λw5 m5 g5=>?_⟩
   .show i*x.cells.length+x.cells.length<=(toArray _).size
    rw[Jf5,hl1,hxl];omega
   have hfin:=acN (cs:=cur.toList) (A:=A) (B:=B) (X:=x.cells) (R:=cur.toList.drop (l.length*x.cells.length)) (k:=x.cells.length) (by rw[<-Jd4,<-hAB,<-htk];exact(Jgk _ _).symm) rfl (by rw[Jf7,hcl,hxl];omega) rfl;replace m5:Hl w5 g ((cur.toList.take (A.length+x.cells.length)++B++cur.toList.drop (A.length+x.cells.length+B.length)).take (i*x.cells.length)++x.cells++(cur.toList.take (A.length+x.cells.length)++B++cur.toList.drop (A.length+x.cells.length+B.length)).drop (i*x.cells.length+x.cells.length)) _:=m5;rw[show i*x.cells.length=A.length from CG.symm,hfin]at m5;have G5:GB (some g) w w5:=(gs.weak.trans g4).trans g5;refine⟨⟨⟨?_,.inr ⟨g,vc,_,congrArg (λz=>Value.slice (Pty g) z vc) (by rw[oP];omega),Jcm _,m5,?_,h4,?_,?_⟩⟩,h.gb.new G5 hnew,λy hy=>?_⟩,G5,λy hy=>.inl hy⟩
   .refine rz (λ_=>?_) _;rfl
   .rw[oP];exact e1
   .simp only[Jf5,Jc6,Jf7,Array.length_toList,hBl,hxl,CG]
    omega
   .rw[hres,oP]
    show(A++x.cells++B++_).take _=_;rw[take_left'];rw[Jc6,Jc6,CG,hBl,hxl];omega
   .have:g=y:=by simpa[Value.ownBlock]using hy
    omega
theorem aaf:Ins Row Row.cells 139 2 189:=MS.1
theorem aag:Ins ag ag.cells 70 7 193:=MS.2
theorem aah{b c i k n d:Nat}:Value.slice (if c=i then some ⟨b,0,none⟩else Option.map (λx:Addr=>x.add k) (some ⟨b,0,none⟩)) n d=.slice (some ⟨b,if c=i then 0 else k,none⟩) n d:=by
 split
 .rfl
 .rw[Jbb,addr_add]
theorem wZ{w:World}{e size n g c:Nat}{xs:List Value}(h:w.ownsRow 0 e size (.slice (Pty g) n c) n xs):∃cur,w.heap[g]?=some (.cells cur e)/\n<=c/\c<=maxLen/\cur.size=c*size/\cur.toList.take (n*size)=xs:=by
 rcases h.2 with⟨q,_⟩|⟨g',cap',cur,q,h0,h2,h3,h4,h5,h6⟩
 .cases q
 injection q with q1 _ q3;injection q1 with q1;injection q1 with q1;subst q1 q3;exact⟨cur,h2,h3,h4,h5,h6⟩
theorem aai{w0 w:World}{v:Value}{l:List Row}(h:LN 139 2 w0 w v l.length (l.map Row.cells).flatten)(hl:l.length<=100000){i:Nat}(hi:i<l.length):CY 190 #[v,.int .i64 i,.int .i64 ((i:Int)+1)] w (λv' w'=>LN 139 2 w0 w' v' (l.eraseIdx i).length ((l.eraseIdx i).map Row.cells).flatten/\GB v.ownBlock w w'/\∀g,v'.ownBlock=some g->v.ownBlock=some g\/w.heap.size<=g):=by
 obtain⟨g,vc,ahk,rfl,aR,htk,hsz2,hcap⟩:=j5 h.own (by omega);obtain⟨cur,uB,h3,h4,h5,h6⟩:=wZ h.own;rw[aR]at uB;injection uB with uB;injection uB with uB _;subst uB;have hsz:=rz (f:=Row.cells) (size:=2) (λ_=>rfl) l;have hnew:=h.new g rfl;have Xf:(l.eraseIdx i).length=l.length-1:=length_eraseIdx_of_lt hi;have her:((l.eraseIdx i).map Row.cells).flatten=(l.map Row.cells).flatten.take (i*2)++(l.map Row.cells).flatten.drop ((i+1)*2):=by
  rw[zx (f:=Row.cells) (size:=2) (λ_=>rfl),wB (f:=Row.cells) (size:=2) (λ_=>rfl),<-Jfr,<-Jda,eraseIdx_eq_take_drop_succ]
 refine aj Tryz.func190 rfl rfl ?_;refine⟨⟨by omega,by omega,by omega,by omega⟩,ah (λe=>?_) (λe=>?_)⟩
 .have:=eq_of_beq e
  omega
 refine⟨by kernel_rfl,by omega,⟨by omega,by omega,by omega⟩,?_⟩;rw[aah (c:=vc) (i:=((i:Int)+1).toNat)];have hB1:((l.map Row.cells).flatten.drop ((i+1)*2)).length=(l.length-(i+1))*2:=by rw[Jf7,hsz];omega
 refine⟨_,(l.map Row.cells).flatten.drop ((i+1)*2),Pq h.own (Jft hi),⟨_,_,aR,?_,?_,?_⟩,by omega,λv' w2 ho g2 n2=>?_⟩
 .rw[show l.length-((i:Int)+1).toNat=l.length-(i+1)by omega]
  by_cases hz:l.length-(i+1)=0
  .rw[hz]
   have:((l.map Row.cells).flatten.drop ((i+1)*2))=[]:=Jcq (by omega);rw[this];unfold aG;simp
  .rw[Jb5 (by omega),<-htk]
   unfold aG;rw[Jfj,show((i:Int)+1).toNat=i+1 by omega,show l.length*2-(i+1)*2=(l.length-(i+1))*2 by omega];rfl
 .rw[hB1];show _=(l.length-((i:Int)+1).toNat)*2;omega
 .rw[wB (f:=Row.cells) (size:=2) (λ_=>rfl)];exact kY (λ_=>rfl) _
 have ev:=n2.inp g rfl (by omega);subst ev;have hlen:((i:Int)).toNat+(l.length-((i:Int)+1).toNat)=l.length-1:=by omega
 replace ho:w2.ownsRow 0 139 2 (.slice (Pty g) (l.length-1) vc) (l.length-1) ((l.eraseIdx i).map Row.cells).flatten:=by
  rw[her,<-hlen];exact ho
 obtain⟨nP,hc2,h23,h24,h25,h26⟩:=wZ ho;refine⟨⟨by omega,by omega,by omega⟩,?_⟩;rw[sN (show ¬vc=(((((i:Int)).toNat+(l.length-((i:Int)+1).toNat):Nat):Int)).toNat by omega)];refine⟨by omega,nP,_,hc2,?_,λzs w3 hzs m3 g3=>?_⟩
 .rw[h25]
  show _*2+_*2<=vc*2;omega
 have G3:GB (some g) w w3:=GB.trans g2 g3;refine⟨⟨⟨?_,.inr ⟨g,vc,_,congrArg (λz=>Value.slice (Pty g) z vc) (by rw[Xf];exact hlen),Jcm _,m3,?_,h4,?_,?_⟩⟩,h.gb.new G3 hnew,λy hy=>?_⟩,G3,λy hy=>.inl hy⟩
 .rw[rz (f:=Row.cells) (size:=2) (λ_=>rfl)]
 .rw[Xf];omega
 .have hzl:zs.length=(l.length-(l.length-1))*2:=by
   rw[hzs];show(_-_)*2=_;omega
  have Xg:nP.toList.length=nP.size:=Array.length_toList;simp only[Jf5,Jc6,Jd6,Jf7,Xg,hzl,h25];show min (_*2) _+_+(_-(_*2+_))=_;omega
 .rw[Xf,<-h26]
  show List.take _ (List.take (_*2) nP.toList++zs++_)=_;have Xg:nP.toList.length=nP.size:=Array.length_toList;rw[Jd4,Jd3 (by rw[Jd6,Xg,h25];omega),Jd5,Jd7 (by omega)]
 .have:g=y:=by simpa[Value.ownBlock]using hy
  omega
end
