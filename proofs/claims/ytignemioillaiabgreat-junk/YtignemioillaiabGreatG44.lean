/- Marshal, Parse. -/
import Derived.Test.YtignemioillaiabGreatG43
import Derived.Test.YtignemioillaiabGreatG42
namespace Go.Proofs.YtignemioillaiabGreat
set_option maxHeartbeats 8000000
set_option maxRecDepth 100000
section
open Go Go.Conc
theorem Dj {r:Rg} (h:og r=true):r.sm:=by
 unfold og Br yD jG at h;simp only [Bool.and_eq_true,decide_eq_true_eq] at h;exact ⟨h.2.2.2.2.1.1,h.2.2.2.2.2.1⟩
theorem AV {r:Rg} (h:sF r=true):r.sm:=by
 unfold sF at h;simp only [Bool.and_eq_true,beq_iff_eq] at h;exact ⟨by omega,by omega⟩
theorem JY {c:MC} (h:kN c=true):c.r.sm:=by
 unfold kN xC at h;split at h
 ·simp only [Bool.and_eq_true] at h;exact AV h.2.1
 split at h
 ·simp only [Bool.and_eq_true] at h;exact AV h.2.1
 split at h
 ·simp only [Bool.and_eq_true] at h;exact Dj h.1
 split at h
 ·simp only [Bool.and_eq_true] at h;exact AV h.2.2
 ·cases h
theorem GR {l:List MV} (h:mW l=true):l.length<=255/\∀ v∈l,v.c.r.sm:=by
 unfold mW jG at h;simp only [Bool.and_eq_true,decide_eq_true_eq] at h;refine ⟨h.1,λ v hv=>?_⟩;obtain ⟨i,hi,rfl⟩:=List.getElem_of_mem hv;have:=List.all_eq_true.1 h.2 i (List.mem_range.2 hi);unfold vY at this;rw [List.getElem?_eq_getElem hi] at this;simp only [Bool.and_eq_true] at this;exact JY this.1
theorem oC {m:MM} (h:mX m=true):m.c.r.sm/\m.vs.length=0/\m.r.sm:=by
 unfold mX xC at h;simp only [Bool.and_eq_true,beq_iff_eq] at h;exact ⟨AV h.2.2.2.2.2.1.2.1,by omega,AV h.2.2.2.2.2.2.2.1⟩
theorem MM.sm.of {m:MM} (h1:m.c.r.sm) (h2:m.r.sm) (h3:m.vs.length=0):m.sm:=⟨h1,h2,by omega,λ v hv=>by rw [List.eq_nil_of_length_eq_zero h3] at hv;cases hv⟩
theorem EI {m:MM} (h:eT m=true):m.sm/\1<=m.kind/\m.kind<=10:=by
 unfold eT at h;split at h
 ·simp only [Bool.and_eq_true] at h;obtain ⟨a,b,c⟩:=oC h.2;exact ⟨.of a c b,by omega,by omega⟩
 split at h
 ·simp only [Bool.and_eq_true] at h;obtain ⟨a,b,c⟩:=oC h.2;exact ⟨.of a c b,by omega,by omega⟩
 split at h
 ·obtain ⟨a,b,c⟩:=oC h;exact ⟨.of a c b,by omega,by omega⟩
 split at h
 ·obtain ⟨a,b,c⟩:=oC h;exact ⟨.of a c b,by omega,by omega⟩
 split at h
 ·simp only [Bool.and_eq_true] at h;obtain ⟨a,b,c⟩:=oC h.2;exact ⟨⟨a,c,(GR h.1).1,(GR h.1).2⟩,by omega,by omega⟩
 split at h
 ·simp only [Bool.and_eq_true] at h;obtain ⟨a,b,c⟩:=oC h.2;exact ⟨.of (JY h.1) c b,by omega,by omega⟩
 split at h
 ·obtain ⟨a,b,c⟩:=oC h;exact ⟨.of a c b,by omega,by omega⟩
 split at h
 ·simp only [Bool.and_eq_true] at h;obtain ⟨a,b,c⟩:=oC h.2;exact ⟨.of (JY h.1) c b,by omega,by omega⟩
 split at h
 ·simp only [Bool.and_eq_true] at h;obtain ⟨a,b,c⟩:=oC h.2;exact ⟨.of a (Dj h.1) b,by omega,by omega⟩
 split at h
 ·simp only [Bool.and_eq_true] at h;obtain ⟨a,b,c⟩:=oC h.2;exact ⟨.of a c b,by omega,by omega⟩
 ·cases h
def sV (m:MM):ByteArray:=if eT m=true then uG (kG m) else ⟨#[]⟩
def oV (d:ByteArray):Option MM:=if eT (dP (dl d)).1=true/\(uG (kG (dP (dl d)).1)).data.toList=d.data.toList then some (dP (dl d)).1 else none
section
variable {w:World} {v:Value} {m:MM}
theorem yO (h:Ae w v m):af Tryz.prog 43 #[v] w (λ v' w'=>v'=.tuple #[.string (sV m),.int .i64 (if eT m=true then 0 else 1)]/\GB none w w'):=by
 obtain ⟨rv,dv,vv,rv',dS,rfl,hc,hv,hr⟩:=h;obtain ⟨_,_,_,_,_,_,e1,e2⟩:=hc.sl;obtain ⟨_,_,_,_,_,_,e3,e4⟩:=hr.sl;obtain ⟨_,_,e5⟩:=hv.sl;subst e1 e2 e3 e4 e5;refine aj ah mixed Tryz.func43 rfl rfl ?_;refine λ w1 b1 m1 g1 l1=>?_
 refine ⟨_,_,m1,dL m _ _ _ _ _,rfl,rfl,_,Oy (hc.kz g1.kz) (hv.kz g1.kz) (hr.kz g1.kz),?_⟩;rintro _ w2 ⟨rfl,g2⟩;have G:=g1.trans g2;unfold sV;obtain ⟨a,ha⟩:∃ a,eT m=a:=⟨_,rfl⟩;rw [ha];cases a
 ·exact ⟨rfl,G⟩
 ·obtain ⟨hs,hk⟩:=EI ha
  refine ⟨_,_,g2.get m1 nofun,dL m _ _ _ _ _,rfl,rfl,_,P6 (eX _ _ _) (by decide) (hc.kz G.kz) (hv.kz G.kz) (hr.kz G.kz) hs hk,?_⟩;intro v3 w3 P;have hrow:=P.row;rw [Nat.zero_add,List.nil_append] at hrow;obtain ⟨a3,c3,rfl⟩:=ae hrow;exact ⟨kG m,hrow,rfl,G.trans P.gb⟩
theorem Ud (w:World) (d:ByteArray):af Tryz.prog 21 #[.string d] w (λ v w'=>(∃ mv e m,v=.tuple #[mv,.int .i64 e]/\Ae w' mv m/\((e=0/\oV d=some m/\1<=m.kind/\m.kind<=10)\/(e≠0/\oV d=none)))/\GB none w w'):=by
 refine aj ah mixed Tryz.func21 rfl rfl ?_;refine λ w1 b1 m1 g1 l1 w2 b2 m2 g2 l2=>⟨_,_,_,m2,rfl,rfl,λ w3 m3 g3=>?_⟩
 have G3:=g2.new g3 l2;refine ⟨_,ZI ⟨d,m3,rfl⟩,?_⟩;rintro _ w4 ⟨m,l4,em,hm,s4,g4⟩;have G4:GB none w w4:=(g1.trans G3).new g4 (Nat.le_trans g1.size l2);have Et:w4.heap[b1]? = _:=g4.get (G3.get m1 nofun) λ e=>by injection e with e;have:=ag m1;omega
 obtain ⟨rv,dv,vv,rv',dS,rfl,hc,hv,hr⟩:=hm;obtain ⟨_,_,_,_,_,_,e1,e2⟩:=hc.sl;obtain ⟨_,_,_,_,_,_,e3,e4⟩:=hr.sl;obtain ⟨_,_,e5⟩:=hv.sl;subst e1 e2 e3 e4 e5;refine λ w5 b5 m5 g5 l5=>⟨_,_,_,m5,rfl,rfl,λ w6 m6 g6=>?_⟩
 have MB:=g5.new g6 l5;have NW:=MB.get Et nofun;refine ⟨_,_,m6,dL m _ _ _ _ _,rfl,rfl,_,yO ⟨_,_,_,_,_,rfl,hc.kz MB.kz,hv.kz MB.kz,hr.kz MB.kz⟩,?_⟩;rintro _ w7 ⟨rfl,g7⟩;have G7:=(G4.trans MB).trans g7;have m1:=g7.get NW nofun;have m6:=g7.get m6 nofun;have k:=MB.trans g7;have ZJ:(dP (dl d)).1=m:=by rw [em]
 have none':∀ w8,GB (some b1) w7 w8->GB none w w8:=λ w8 g8=>G7.new g8 l1
 clear Et NW m3 m2 g3 g1 g2 G3 g4 m5 g5 g6;obtain ⟨a,ha⟩:∃ a,eT m=a:=⟨_,rfl⟩;have hdn:a=false->oV d=none:=λ h=>by unfold oV;rw [ZJ,ha,h];simp
 unfold sV;rw [ha];cases a
 ·refine ⟨_,_,_,m1,rfl,rfl,λ w8 m8 g8=>?_⟩
  exact ⟨_,_,m8,dL (aP 0) (.slice none 0 0) (.slice none 0 0) (.slice none 0 0) (.slice none 0 0) (.slice none 0 0),rfl,rfl,⟨_,_,aP 0,rfl,⟨_,_,_,_,_,rfl,aM.zero _,bV.zero _,aM.zero _⟩,.inr ⟨by decide,hdn rfl⟩⟩,none' w8 g8⟩
 ·refine au (λ q=>?_) (λ q=>?_)
  ·have q1:oV d=none:=by
    unfold oV;rw [ZJ,if_neg];rintro ⟨_,h⟩;rw [show (if true=true then uG (kG m) else ⟨#[]⟩)=uG (kG m) from rfl,ByteArray.toList_eq,ByteArray.toList_eq,h] at q;simp at q
   refine ⟨_,_,_,m1,rfl,rfl,λ w8 m8 g8=>?_⟩;exact ⟨_,_,m8,dL (aP 0) (.slice none 0 0) (.slice none 0 0) (.slice none 0 0) (.slice none 0 0) (.slice none 0 0),rfl,rfl,⟨_,_,aP 0,rfl,⟨_,_,_,_,_,rfl,aM.zero _,bV.zero _,aM.zero _⟩,.inr ⟨by decide,q1⟩⟩,none' w8 g8⟩
  ·have q1:oV d=some m:=by
    unfold oV;rw [ZJ,if_pos];rw [show (if true=true then uG (kG m) else ⟨#[]⟩)=uG (kG m) from rfl,ByteArray.toList_eq,ByteArray.toList_eq] at q;simp at q;exact ⟨ha,by simp [q]⟩
   refine ⟨_,_,m6,dL m _ _ _ _ _,rfl,rfl,_,_,_,m1,rfl,rfl,λ w8 m8 g8=>?_⟩;have hb1:∀ {c t},(x:Nat)->w7.heap[x]? = some (.cells c t)->t≠83->x≠b1:=λ x hx ht=>df hx m1 ht
   refine ⟨_,_,m8,dL m _ _ _ _ _,rfl,rfl,⟨_,_,m,rfl,⟨_,_,_,_,_,rfl,(hc.kz k.kz).bS g8 m1 (by decide) (by decide),(hv.kz k.kz).bS g8 m1 (by decide) (by decide) (by decide),(hr.kz k.kz).bS g8 m1 (by decide) (by decide)⟩,.inl ⟨rfl,q1,(EI ha).2⟩⟩,none' w8 g8⟩
end
def dn (l:List Int):List Nat:=l.map λ n=>n.toNat%256
theorem dZ (a b:List Int):dn (a++b)=dn a++dn b:=List.map_append
theorem GU:∀ (l:List Int) (r:ByteArray),(l.foldl (λ r n=>r.push (UInt8.ofNat n.toNat)) r).data.toList=r.data.toList++l.map λ n=>UInt8.ofNat n.toNat
 | [],r=>by simp
 | a::l,r=>by rw [List.foldl_cons,GU l];simp
theorem FL (l:List Int):dl (uG l)=dn l:=by
 unfold dl uG dn;rw [GU];show List.map UInt8.toNat ([]++_)=_;simp
theorem FM {k:Nat} {a l:List Nat} (h:a.length=k):num k (a++l)=(be a,l):=by
 rw [yI (by simp;omega)];subst h;simp
theorem ZK (b:List Nat):∀ (a:List Nat),be (a++b)=be a*256 ^ b.length+be b:=by
 suffices h:∀ (b:List Nat) (n:Nat),b.foldl (λ n b=>n*256+b) n=n*256 ^ b.length+be b from λ a=>by
  unfold be;rw [List.foldl_append,h];rfl
 intro b;induction b with
 | nil=>intro n;simp [be]
 | cons x b ih =>
  intro n;unfold be;rw [List.foldl_cons,List.foldl_cons,ih,ih (0*256+x),List.length_cons,Nat.pow_succ,Nat.add_mul,Nat.mul_assoc,Nat.mul_comm 256,Nat.zero_mul,Nat.zero_add,Nat.add_assoc]
theorem BC (x:Int):IntKind.u8.wrap x=x%256:=rfl
theorem JZ (x:Int):IntKind.u32.wrap x=x%4294967296:=rfl
theorem fd {x:Int} {n:Nat}:x.fdiv ((2:Int) ^ n)=x / 2 ^ n:=Int.fdiv_eq_ediv_of_nonneg _ (by exact Int.le_of_lt (Int.pow_pos (by decide)))
theorem Oz (x:Nat):be (dn (b32 x))=x%4294967296:=by
 unfold b32;rw [fd,fd,fd,BC,BC,BC,BC];simp only [dn,List.map_cons,List.map_nil,be,List.foldl_cons,List.foldl_nil];omega
theorem ME {x:Int} (h:0<=x):b32 x=b32 ((x.toNat:Nat):Int):=by rw [Int.toNat_of_nonneg h]
theorem aaU {x:Nat} (h:x<18446744073709551616):be (dn (b64 x))=x:=by
 unfold b64;rw [dZ,ZK,fd,JZ,JZ,ME (x:=(x:Int) / 2 ^ 32%4294967296) (by omega),ME (x:=(x:Int)%4294967296) (by omega),Oz,Oz];show _*256 ^ 4+_=_;omega
section
variable {β:Type} {x:Nat} {l:List Nat} {f:Nat->List Nat->β}
theorem Vn:nx 1 (dn [(x:Int)]++l) f=f (x%256) l:=by
 rw [aX (FM (k:=1) rfl)];show f (0*256+(x:Int).toNat%256) l=_;congr 1;omega
theorem oW (h:x<256):nx 1 (dn [(x:Int)]++l) f=f x l:=by rw [Vn,Nat.mod_eq_of_lt h]
theorem MH:nx 4 (dn (b32 x)++l) f=f (x%4294967296) l:=by rw [aX (FM (k:=4) rfl),Oz]
theorem J2 (h:x<4294967296):nx 4 (dn (b32 x)++l) f=f x l:=by rw [MH,Nat.mod_eq_of_lt h]
theorem EJ (h:x<18446744073709551616):nx 8 (dn (b64 x)++l) f=f x l:=by rw [aX (FM (k:=8) rfl),aaU h]
end
theorem U8.nat {x:Int} (h:U8 x):∃ n:Nat,x=n/\n<256:=⟨x.toNat,by have:=h.1;omega,by have:=h.1;have:=h.2;omega⟩
theorem qJ.nat {x:Int} (h:qJ x):∃ n:Nat,x=n/\n<4294967296:=⟨x.toNat,by have:=h.1;omega,by have:=h.1;have:=h.2;omega⟩
theorem iA.nat {x:Int} (h:iA x):∃ n:Nat,x=n/\n<18446744073709551616:=⟨x.toNat,by have:=h.1;omega,by have:=h.1;have:=h.2;omega⟩
theorem Ue {x:Row} (h:x.b) (l:List Nat):ug (dn (qW x)++l)=(x,l):=by
 obtain ⟨k,v⟩:=x;obtain ⟨k,rfl,hk⟩:=iA.nat (h.k:iA k);obtain ⟨v,rfl,hv⟩:=iA.nat (h.v:iA v);unfold ug qW;rw [dZ,List.append_assoc,EJ hk,EJ hv]
theorem Uf {x:az} (h:x.b) (ho:tL x=true) (l:List Nat):kZ (dn (mf x)++l)=(x,l):=by
 obtain ⟨c,s,key,k,fo,v,g⟩:=x;obtain ⟨c,rfl,hc⟩:=U8.nat (h.c:U8 c);obtain ⟨s,rfl,hs⟩:=qJ.nat (h.s:qJ s);obtain ⟨key,rfl,hkey⟩:=iA.nat (h.key:iA key);obtain ⟨k,rfl,hk⟩:=U8.nat (h.k:U8 k);obtain ⟨v,rfl,hv⟩:=iA.nat (h.v:iA v);obtain ⟨g,rfl,hg⟩:=U8.nat (h.g:U8 g);unfold tL at ho;unfold kZ mf;dsimp only at ho |-;simp only [dZ,List.append_assoc];rw [oW hc,J2 hs,EJ hkey,oW hk];by_cases k1:k=1
 ·subst k1
  rw [if_pos rfl,if_pos (show ((1:Nat):Int)=1 from rfl),dZ];simp at ho;cases fo with
  | true =>
   have e:Bp true=[((1:Nat):Int)]:=rfl;rw [e,if_pos rfl,List.append_assoc,oW (by decide),if_neg (by decide),EJ hv];have:g=0:=by omega
   subst this;rfl
  | false =>
   have e:Bp false=[((0:Nat):Int)]:=rfl;rw [e,if_neg (by decide),List.append_assoc,oW (by decide),if_pos rfl];have:g=0:=by omega
   have:v=0:=by simp at ho;omega
   subst g v;rfl
 ·rw [if_neg k1,if_neg (show ¬ (k:Int)=1 by omega)]
  by_cases k3:k=3
  ·subst k3
   rw [if_pos rfl,if_pos (show ((3:Nat):Int)=3 from rfl),oW hg];simp at ho;have:v=0:=by omega
   have:fo=false:=ho.2.2.1;subst v fo;rfl
  ·rw [if_neg k3,if_neg (show ¬ (k:Int)=3 by omega)]
   rw [if_neg (show ¬ (k:Int)=1 by omega),if_neg (show ¬ (k:Int)=3 by omega)] at ho;simp only [Bool.and_eq_true] at ho;have ho:=ho.2;split at ho
   ·simp at ho
    have:v=0:=by omega
    have:g=0:=by omega
    have:fo=false:=ho.1;subst v g fo;rfl
   ·cases ho
theorem Ug {x:bN} (h:x.b) (ho:kI x=true) (l:List Nat):qz (dn (uR x)++l)=(x,l):=by
 obtain ⟨c,s,k,key,v,hi,to⟩:=x;obtain ⟨c,rfl,hc⟩:=U8.nat (h.c:U8 c);obtain ⟨s,rfl,hs⟩:=qJ.nat (h.s:qJ s);obtain ⟨key,rfl,hkey⟩:=iA.nat (h.key:iA key);obtain ⟨k,rfl,hk⟩:=U8.nat (h.k:U8 k);obtain ⟨v,rfl,hv⟩:=iA.nat (h.v:iA v);obtain ⟨hi,rfl,hhi⟩:=iA.nat (h.hi:iA hi);obtain ⟨to,rfl,hto⟩:=U8.nat (h.to:U8 to);unfold kI at ho;unfold qz uR;dsimp only at ho |-;simp only [dZ,List.append_assoc];rw [oW hc,J2 hs,oW hk,EJ hkey];by_cases k2:k=2
 ·subst k2
  rw [if_pos rfl,if_pos (show ((2:Nat):Int)=2 from rfl),EJ hv];simp at ho;have:hi=0:=by omega
  have:to=0:=by omega
  subst hi to;rfl
 ·rw [if_neg k2,if_neg (show ¬ (k:Int)=2 by omega)]
  by_cases k4:k=4
  ·subst k4
   rw [if_pos rfl,if_pos (show ((4:Nat):Int)=4 from rfl),dZ,List.append_assoc,EJ hhi,oW hto];simp at ho;have:v=0:=by omega
   subst v;rfl
  ·rw [if_neg k4,if_neg (show ¬ (k:Int)=4 by omega)]
   simp only [Bool.and_eq_true] at ho;have ho:=ho.2;split at ho
   ·simp at ho
    have:hi=0:=by omega
    have:to=0:=by omega
    have:v=0:=by omega
    subst hi to v;rfl
   ·rw [if_neg (show ¬ (k:Int)=2 by omega),if_neg (show ¬ (k:Int)=4 by omega)] at ho
    cases ho
theorem J3 {α:Type} {f:List Nat->α×List Nat} {e:α->List Int} {g:α->α}:∀ {xs:List α},(∀ x∈xs,∀ l,f (dn (e x)++l)=(g x,l))->(∀ x,e x≠[])->∀ l,nJ f xs.length (dn (xs.map e).flatten++l)=(xs.map g,l)
 | [],_,_,l=>rfl
 | x::xs,h,ne,l=>by
  rw [List.map_cons,List.flatten_cons,dZ,List.append_assoc,List.length_cons,yJ (h x (List.mem_cons_self) _) (λ c=>ne x (by have:=(List.append_eq_nil_iff.1 c).1;exact List.map_eq_nil_iff.1 this)),J3 (λ y hy=>h y (List.mem_cons_of_mem _ hy)) ne l];rfl
theorem AX {α:Type} {f:List Nat->α×List Nat} {e:α->List Int} {g:α->α} {xs:List α} (h:∀ x∈xs,∀ l,f (dn (e x)++l)=(g x,l)) (ne:∀ x,e x≠[]) (hl:xs.length<=255) (l:List Nat):jg f (dn ([(xs.length:Int)]++(xs.map e).flatten)++l)=(xs.map g,l):=by
 unfold jg;rw [dZ,List.append_assoc,oW (by omega),J3 h ne]
theorem MI {x:Rg} (h:x.b) (ho:og x=true) (l:List Nat):AP (dn (Ce x)++l)=(x,l):=by
 have sm:=Dj ho;have hp:∀ p∈x.aY,tL p=true:=λ p hp=>by
  unfold og yD jG at ho;simp only [Bool.and_eq_true,decide_eq_true_eq] at ho;obtain ⟨i,hi,rfl⟩:=List.getElem_of_mem hp;have:=List.all_eq_true.1 ho.2.2.2.2.2.2 i (List.mem_range.2 hi);unfold vY at this;rw [List.getElem?_eq_getElem hi] at this;simp only [Bool.and_eq_true] at this;exact this.1.1
 obtain ⟨src,dst,seq,lo,hi,rows,aY⟩:=x;have hrows:∀ x∈rows,x.b:=h.rows;have Ox:∀ x∈aY,x.b:=h.aY;have l1:rows.length<=255:=sm.1;have l2:aY.length<=255:=sm.2;obtain ⟨src,rfl,hsrc⟩:=U8.nat (h.src:U8 src);obtain ⟨dst,rfl,hdst⟩:=U8.nat (h.dst:U8 dst);obtain ⟨seq,rfl,hseq⟩:=qJ.nat (h.seq:qJ seq);obtain ⟨lo,rfl,hlo⟩:=iA.nat (h.lo:iA lo);obtain ⟨hi,rfl,hhi⟩:=iA.nat (h.hi:iA hi);unfold AP Ce;dsimp only;rw [dZ,dZ,dZ,dZ,dZ,dZ];simp only [List.append_assoc];rw [oW hsrc,oW hdst,J2 hseq,EJ hlo,EJ hhi,dV (AX (e:=qW) (g:=id) (λ x hx=>Ue (hrows x hx)) (λ x=>by simp [qW,b64,b32]) l1 _),dV (AX (e:=mf) (g:=id) (λ x hx=>Uf (Ox x hx) (hp x hx)) (λ x=>by simp [mf]) l2 _)];simp
theorem OA {q:bN} (h:oh q=true):q=qg:=by
 obtain ⟨c,s,k,key,v,hi,to⟩:=q;unfold oh at h;simp at h;obtain ⟨rfl,rfl,rfl,rfl,rfl,rfl,rfl⟩:=h;rfl
theorem OB {r:Rg} (h:sF r=true):r=pG:=by
 obtain ⟨src,dst,seq,lo,hi,rows,aY⟩:=r;unfold sF at h;simp at h;obtain ⟨rfl,rfl,rfl,rfl,rfl,rfl,rfl⟩:=h;rfl
theorem Dl {N:Nat} {c:MC} (h:lQ N c) (ho:kN c=true) (l:List Nat):mF (dn (mg c)++l)=(c,l):=by
 obtain ⟨k,q,r,p,s⟩:=c;have hq:q.b:=h.q;have hr:r.b:=h.r;obtain ⟨k,rfl,hk⟩:=U8.nat (h.kind:U8 k);obtain ⟨p,rfl,hp⟩:=U8.nat (h.peer:U8 p);obtain ⟨s,rfl,hs⟩:=qJ.nat (h.seq:qJ s);unfold kN xC at ho;unfold mF mg;dsimp only at ho |-;rw [dZ,List.append_assoc,oW hk];by_cases k0:k=0
 ·subst k0
  rw [if_pos (show ((0:Nat):Int)=0 from rfl)] at ho;simp only [Bool.and_eq_true,beq_iff_eq] at ho;obtain ⟨h1,h2,h3,h4⟩:=ho;have h3:p=0:=by omega
  have h4:s=0:=by omega
  rw [OA h1,OB h2,h3,h4];rfl
 rw [if_neg (by omega)] at ho;by_cases k1:k=1
 ·subst k1
  rw [if_pos (show ((1:Nat):Int)=1 from rfl)] at ho;simp only [Bool.and_eq_true,beq_iff_eq] at ho;obtain ⟨h1,h2,h3,h4⟩:=ho;have h3:p=0:=by omega
  have h4:s=0:=by omega
  rw [if_pos rfl,if_pos (show ((1:Nat):Int)=1 from rfl),dV (Ug hq h1 l),OB h2,h3,h4];rfl
 rw [if_neg (by omega)] at ho;rw [if_neg k1,if_neg (show ¬ (k:Int)=1 by omega)];by_cases k2:k=2
 ·subst k2
  rw [if_pos (show ((2:Nat):Int)=2 from rfl)] at ho;simp only [Bool.and_eq_true,beq_iff_eq] at ho;obtain ⟨h1,h2,h3,h4⟩:=ho;have h3:p=0:=by omega
  have h4:s=0:=by omega
  rw [if_pos rfl,if_pos (show ((2:Nat):Int)=2 from rfl),dV (MI hr h1 l),OA h2,h3,h4];rfl
 rw [if_neg (by omega)] at ho;rw [if_neg k2,if_neg (show ¬ (k:Int)=2 by omega)];by_cases k3:k=3
 ·subst k3
  rw [if_pos (show ((3:Nat):Int)=3 from rfl)] at ho;simp only [Bool.and_eq_true] at ho;obtain ⟨h1,h2,h3⟩:=ho;rw [if_pos rfl,if_pos (show ((3:Nat):Int)=3 from rfl),dZ,List.append_assoc,oW hp,J2 hs,OA h2,OB h3]
 rw [if_neg (by omega)] at ho;cases ho
theorem rq (n i:Nat) (l:List Nat):gZ (dn (eQ n i)++l)=(⟨n%4294967296,i%256⟩,l):=by
 unfold gZ eQ;rw [dZ,List.append_assoc,MH,Vn]
theorem QS {N:Nat} {v:MV} (h:lQ N v.c) (ho:kN v.c=true) (l:List Nat):mZ (dn (kv v)++l)=(⟨v.slot%4294967296,⟨v.b.n%4294967296,v.b.id%256⟩,v.c⟩,l):=by
 unfold mZ kv;rw [dZ,dZ,List.append_assoc,List.append_assoc,MH,dV (rq _ _ _),dV (Dl h ho l)]
structure Ask where
 q:bN
 g:Nat
 p:Nat
def Ask.cells (a:Ask):List Value:=a.q.cells++[.int .u8 a.g,.int .i64 a.p]
structure Sit where
 C:aL
 asks:List Ask
 dM:List (List MC)
 len:List Nat
 fell:List Bool
 next:Nat
 bad:Bool
structure zk where
 (aq bq lq fq:Value)
 bv:List Value
def gp (bc:Nat) (S:Sit) (a:zk):List Value:=[Ptt bc,.int .i64 S.C.n,.int .i64 S.C.sz,a.aq,a.bq,a.lq,a.fq,.int .i64 S.next,.bool S.bad]
def wP (bs:Nat) (a:zk) (x:Nat):Prop:=x=bs\/a.aq.ownBlock=some x\/a.bq.ownBlock=some x\/a.lq.ownBlock=some x\/a.fq.ownBlock=some x\/∃ v∈a.bv,v.ownBlock=some x
structure nR (w:World) (bs bc:Nat) (S:Sit) (a:zk):Prop where
 mem:w.heap[bs]? = some (.cells (gp bc S a).toArray 44)
 ak:w.ownsRow 0 67 9 a.aq S.asks.length (S.asks.map Ask.cells).flatten
 be:w.ownsRow 0 57 1 a.bq S.dM.length a.bv
 bl:a.bv.length=S.dM.length
 bi:∀ (g:Nat) (l:List MC) (v:Value),S.dM[g]? = some l->a.bv[g]? = some v->mR w v l
 le:w.ownsRow 0 3 1 a.lq S.len.length (S.len.map λ k=>Value.int .i64 (k:Nat))
 fe:w.ownsRow 0 4 1 a.fq S.fell.length (S.fell.map Value.bool)
def Vr:List Nat:=[44,67,57,3,4,80]
section
variable {w w':World} {bs bc:Nat} {S S':Sit} {a a':zk}
theorem nR.typ (h:nR w bs bc S a) {x:Nat} (hx:wP bs a x):∃ c t,w.heap[x]? = some (.cells c t)/\t∈Vr:=by
 rcases hx with rfl | hx | hx | hx | hx | ⟨v,hv,hx⟩
 ·exact ⟨_,_,h.mem,by decide⟩
 ·obtain ⟨c,hc⟩:=aD h.ak hx;exact ⟨_,_,hc,by decide⟩
 ·obtain ⟨c,hc⟩:=aD h.be hx;exact ⟨_,_,hc,by decide⟩
 ·obtain ⟨c,hc⟩:=aD h.le hx;exact ⟨_,_,hc,by decide⟩
 ·obtain ⟨c,hc⟩:=aD h.fe hx;exact ⟨_,_,hc,by decide⟩
 ·obtain ⟨g,hg⟩:=List.mem_iff_getElem?.1 hv
  have hl:g<S.dM.length:=by rw [<- h.bl];exact (List.getElem?_eq_some_iff.1 hg).1
  obtain ⟨c,hc⟩:=(h.bi g S.dM[g] v (by simp [hl]) hg).obj hx;exact ⟨_,_,hc,by decide⟩
theorem nR.lt (h:nR w bs bc S a) {x:Nat} (hx:wP bs a x):x<w.heap.size:=by obtain ⟨c,t,hc,_⟩:=h.typ hx;exact ag hc
theorem nR.keep (h:nR w bs bc S a) (k:Kz w w') (hb:∀ x,wP bs a x->w'.heap[x]? = w.heap[x]?):nR w' bs bc S a :=
 ⟨(hb bs (.inl rfl)).trans h.mem,aA h.ak λ g hg=>hb g (.inr (.inl hg)),aA h.be λ g hg=>hb g (.inr (.inr (.inl hg))),h.bl,λ g l v hl hv=>(h.bi g l v hl hv).kz k λ x hx=>hb x (.inr (.inr (.inr (.inr (.inr ⟨v,List.mem_of_getElem? hv,hx⟩))))),aA h.le λ g hg=>hb g (.inr (.inr (.inr (.inl hg)))),aA h.fe λ g hg=>hb g (.inr (.inr (.inr (.inr (.inl hg)))))⟩
theorem QT {t:Nat} (h:t∈Vr):t ∉ Lu/\t ∉ LY:=by
 unfold Vr at h;simp only [List.mem_cons,List.not_mem_nil,or_false] at h;rcases h with rfl | rfl | rfl | rfl | rfl | rfl <;> decide
end
section
variable {w w':World} {bc:Nat} {gv sv:Value} {q:List bF} {n sz:Nat} {B:Nat->Nat->Nat} {ad:Nat->Nat->fH} {F:Nat->Nat->MR}
theorem CI.keep (h:CI w bc gv sv q n sz B ad F) (k:Kz w w') (hb:∀ x,mh n sz B bc sv ad x->w'.heap[x]? = w.heap[x]?) (hp:∀ (x:Nat) (c:Array Value) (t:TypeId),t∈LY->w.heap[x]? = some (Obj.cells c t)->w'.heap[x]? = some (Obj.cells c t)):CI w' bc gv sv q n sz B ad F:=by
 obtain ⟨bg,cg,cur,tg,e1,e2,e3,e4,e5⟩:=h.ptr;refine ⟨(hb bc (.inl rfl)).trans h.eH,aA h.row λ x hx=>hb x (.inr (.inl hx)),h.len,⟨bg,cg,cur,tg,e1,e2,hp _ _ _ e4 e3,e4,λ g hg=>?_⟩,λ g i hg hi=>(h.rep g i hg hi).keep k λ x hx=>hb x (.inr (.inr ⟨g,i,hg,hi,hx⟩)),h.sep,h.ob⟩;obtain ⟨bs,ct,cur',ts,f1,f2,f3,f4,f5⟩:=e5 g hg;exact ⟨bs,ct,cur',ts,f1,f2,hp _ _ _ f4 f3,f4,f5⟩
end
structure gU (Λ:bU) (bs bc:Nat) (S:Sit) (a:zk) (gv sv:Value) (B:Nat->Nat->Nat) (ad:Nat->Nat->fH) (w:World):Prop where
 si:nR w bs bc S a
 ci:CI w bc gv sv S.C.q S.C.n S.C.sz B ad S.C.F
 dj:∀ x,wP bs a x->¬ mh S.C.n S.C.sz B bc sv ad x
 pr:∀ b o,Λ.pr b=some o->w.heap[b]? = some o/\¬ wP bs a b/\¬ mh S.C.n S.C.sz B bc sv ad b
 os:w.os=Λ.os
 out:w.output=Λ.out
def bY (Λ:bU) (bs:Nat) (S:Sit) (w:World):Prop:=∃ bc a gv sv B ad,gU Λ bs bc S a gv sv B ad w
open Classical in
noncomputable def yP (w:World) (n sz:Nat) (B:Nat->Nat->Nat) (bc:Nat) (sv:Value) (ad:Nat->Nat->fH):bU:=⟨λ b=>if mh n sz B bc sv ad b then none else w.heap[b]?,w.os,w.output⟩
section
variable {Λ:bU} {w w':World} {bs bc:Nat} {S S':Sit} {a a':zk} {gv sv:Value} {B:Nat->Nat->Nat} {ad:Nat->Nat->fH}
theorem gU.ax (h:gU Λ bs bc S a gv sv B ad w) (g:GB none w w'):gU Λ bs bc S a gv sv B ad w':=⟨h.si.keep g.kz λ x hx=>g.block x (h.si.lt hx) nofun,h.ci.ax g,h.dj,λ b o hb=>⟨g.get (h.pr b o hb).1 nofun,(h.pr b o hb).2⟩,g.os.trans h.os,g.out.trans h.out⟩
theorem bY.ax (h:bY Λ bs S w) (g:GB none w w'):bY Λ bs S w':=by obtain ⟨bc,a,gv,sv,B,ad,h⟩:=h;exact ⟨bc,a,gv,sv,B,ad,h.ax g⟩
theorem gU.enter (h:gU Λ bs bc S a gv sv B ad w):tK (yP w S.C.n S.C.sz B bc sv ad) bc S.C w:=by
 refine ⟨gv,sv,B,ad,h.ci,λ b o hb=>?_,rfl,rfl⟩;unfold yP at hb;dsimp only at hb;split at hb
 ·cases hb
 ·rename_i hn;exact ⟨hb,hn⟩
theorem gU.leave (h:gU Λ bs bc S a gv sv B ad w) {C':aL} (hn:C'.n=S.C.n) (hz:C'.sz=S.C.sz) (hc:tK (yP w S.C.n S.C.sz B bc sv ad) bc C' w') (k:Kz w w'):bY Λ bs { S with C:=C' } w':=by
 obtain ⟨Qi,dx,B',jo,h'⟩:=hc;have kp:∀ {x:Nat} {o:Obj},w.heap[x]? = some o->¬ mh S.C.n S.C.sz B bc sv ad x->w'.heap[x]? = some o/\¬ mh C'.n C'.sz B' bc dx jo x:=λ {x o} hx hno=>h'.pr x o (by unfold yP;dsimp only;rw [if_neg hno];exact hx)
 have ks:∀ x,wP bs a x->w'.heap[x]? = w.heap[x]?/\¬ mh C'.n C'.sz B' bc dx jo x:=λ x hx=>by
  obtain ⟨c,t,h1,_⟩:=h.si.typ hx;obtain ⟨h2,h3⟩:=kp h1 (h.dj x hx);exact ⟨h2.trans h1.symm,h3⟩
 have s':=h.si.keep k λ x hx=>(ks x hx).1
 refine ⟨bc,a,Qi,dx,B',jo,⟨⟨?_,s'.ak,s'.be,s'.bl,s'.bi,s'.le,s'.fe⟩,h'.ci,λ x hx=>(ks x hx).2,λ b o hb=>?_,h'.os.trans h.os,h'.out.trans h.out⟩⟩
 ·have e:gp bc { S with C:=C' } a=gp bc S a:=by unfold gp;dsimp only;rw [hn,hz]
  rw [e];exact s'.mem
 ·obtain ⟨p1,p2,p3⟩:=h.pr b o hb
  obtain ⟨q1,q2⟩:=kp p1 p3;exact ⟨q1,p2,q2⟩
end
def bf (c:Int) (n:Nat):Nat:=(if c<0 then (-c - 1).toNat else c.toNat)%n
theorem je (c:Int) {n:Nat} (h:0<n):bf c n<n:=Nat.mod_lt _ h
theorem yQ (a:Nat) (n:Nat):((a:Int)).tmod n=((a%n:Nat):Int):=by
 rw [Int.tmod_eq_emod_of_nonneg (Int.natCast_nonneg _)];omega
theorem iW (w:World) (c:Int) (n:Nat) (hn:0<n) (h0 : -9223372036854775808<=c) (h1:c<9223372036854775808):af Tryz.prog 46 #[.int .i64 c,.int .i64 n] w (λ v w'=>v=.int .i64 (bf c n)/\w'=w):=by
 refine aj ah mixed Tryz.func46 rfl rfl ?_;refine au (λ d=>?_) (λ d=>?_)
 ·have d1:c<0:=of_decide_eq_true d
  refine ⟨by omega,by omega,by omega,?_,rfl⟩;unfold bf;rw [if_pos d1,show (0 - (c+1):Int)=((-c - 1).toNat:Int) by omega,yQ]
 ·have d1:¬ c<0:=of_decide_eq_false d
  refine ⟨by omega,?_,rfl⟩;unfold bf;rw [if_neg d1,show c=(c.toNat:Int) by omega,yQ,Int.toNat_natCast]
def aZ (C:aL) (k:Int):Nat:=bf k (C.n*C.sz) / C.sz
def bH (C:aL) (k:Int):Nat:=bf k (C.n*C.sz)%C.sz
theorem mG {C:aL} {k:Int} (hn:0<C.n) (hs:0<C.sz):aZ C k<C.n/\bH C k<C.sz:=by
 have h:=je k (Nat.mul_pos hn hs);refine ⟨?_,Nat.mod_lt _ hs⟩;unfold aZ;rw [Nat.div_lt_iff_lt_mul hs];exact h
section
variable {w:World} {bs bc:Nat} {S:Sit} {a:zk}
theorem nD (hm:w.heap[bs]? = some (.cells (gp bc S a).toArray 44)) (hn:0<S.C.n/\S.C.n<=4) (hs:0<S.C.sz/\S.C.sz<=5) (k:Int) (h0 : -9223372036854775808<=k) (h1:k<9223372036854775808):af Tryz.prog 23 #[Ptt bs,.int .i64 k] w (λ v w'=>v=.agg #[.int .u8 (aZ S.C k),.int .u8 (bH S.C k)]/\GB none w w'):=by
 refine aj ah mixed Tryz.func23 rfl rfl ?_;refine λ w1 b1 m1 g1 l1=>?_
 have hm1:=g1.get hm nofun;have hp:0<S.C.n*S.C.sz:=Nat.mul_pos hn.1 hs.1;have hle:S.C.n*S.C.sz<=20:=Nat.mul_le_mul hn.2 hs.2;have hj:=je k hp;obtain ⟨q1,q2⟩:=mG (k:=k) hn.1 hs.1;have pk:=iW w1 k (S.C.n*S.C.sz) hp h0 h1;rw [Int.natCast_mul] at pk;have afS:(S.C.n:Int)*S.C.sz<=20:=by rw [<- Int.natCast_mul];omega
 have hge':(0:Int)<=(S.C.n:Int)*S.C.sz:=by rw [<- Int.natCast_mul];omega
 refine ⟨by kernel_rfl,_,_,hm1,_,rfl,_,_,hm1,_,rfl,by omega,_,pk,?_⟩;rintro _ w2 ⟨rfl,rfl⟩;have hq:IntKind.i64.wrap (((bf k (S.C.n*S.C.sz):Nat):Int).tdiv (S.C.sz:Int))=((aZ S.C k:Nat):Int):=by
  have e:((bf k (S.C.n*S.C.sz):Nat):Int).tdiv (S.C.sz:Int)=((aZ S.C k:Nat):Int):=by
   rw [Int.tdiv_eq_ediv_of_nonneg (Int.natCast_nonneg _)];unfold aZ;omega
  rw [e,Go.IntWalk.i64_in _ ⟨by omega,by omega⟩]
 have hr:((bf k (S.C.n*S.C.sz):Nat):Int).tmod (S.C.sz:Int)=((bH S.C k:Nat):Int):=by rw [yQ];rfl
 have nz:((S.C.sz:Nat):Int)≠0:=by omega
 refine ⟨by kernel_rfl,_,_,hm1,_,rfl,nz,.inl ⟨⟨by rw [hq];omega,by rw [hq];omega⟩,_,_,hm1,_,rfl,nz,.inl ⟨⟨by rw [hr];omega,by rw [hr];omega⟩,?_⟩⟩⟩;rw [hq,hr];refine ⟨_,_,_,m1,rfl,rfl,λ w3 m3 g3=>?_⟩;exact ⟨_,_,m3,[.int .u8 (aZ S.C k),.int .u8 (bH S.C k)],rfl,rfl,rfl,g1.new g3 l1⟩
end
def jK (k:Int):Int:=if k.tmod 11 == 10 then 18446744073709551615 else k.tmod 11
theorem EK (w:World) (k:Int):af Tryz.prog 10 #[.int .u64 k] w (λ v w'=>v=.int .u64 (jK k)/\w'=w):=by
 refine aj ah mixed Tryz.func10 rfl rfl ?_;unfold jK;refine ⟨by decide,au (λ c=>?_) (λ c=>?_)⟩
 ·have c1:(k.tmod 11 == 10)=true:=c
  exact ⟨by rw [if_pos c1],rfl⟩
 ·have c1:¬ (k.tmod 11 == 10)=true:=λ e=>by have:(k.tmod 11 == 10)=false:=c;rw [this] at e;cases e
  exact ⟨by decide,by rw [if_neg c1],rfl⟩
def cO (q:bN):bN:=⟨q.c.tmod 3,1+q.s.tmod 9,1+q.k.tmod 4,jK q.key,if (1+q.k.tmod 4 == 2)=true then q.v else 0,if (1+q.k.tmod 4 == 4)=true then (if jK q.hi<jK q.key then jK q.key else jK q.hi) else 0,if (1+q.k.tmod 4 == 4)=true then q.to.tmod 4 else 0⟩
theorem Uh (w:World) (q:bN) (hs:0<=q.s) (hk:0<=q.k):af Tryz.prog 52 #[.agg q.cells.toArray] w (λ v w'=>v=.agg (cO q).cells.toArray/\GB none w w'):=by
 refine aj ah mixed Tryz.func52 rfl rfl ?_;refine λ w1 b1 m1 g1 l1 w2 b2 m2 g2 l2=>?_
 have m12:=g2.get m1 nofun;have s9:0<=q.s.tmod 9/\q.s.tmod 9<9:=⟨Int.tmod_nonneg _ hs,Int.tmod_lt_of_pos _ (by decide)⟩;have k4:0<=q.k.tmod 4/\q.k.tmod 4<4:=⟨Int.tmod_nonneg _ hk,Int.tmod_lt_of_pos _ (by decide)⟩;refine ⟨by kernel_rfl,?_⟩;refine ⟨_,_,m12,_,rfl,by decide,_,_,m12,_,rfl,by decide,⟨by omega,by omega⟩,_,_,m12,_,rfl,by decide,⟨by omega,by omega⟩,_,_,m12,_,rfl,?_⟩;refine ⟨⟨_,EK w2 q.key,?_⟩,λ w3 b3 m3 g3 l3=>?_⟩
 ·rintro _ w2 ⟨rfl,rfl⟩
  refine ⟨⟨m12,m12,m12,m12,trivial⟩,λ w3 b3 m3 g3 l3=>⟨⟨g3.get m12 nofun,g3.get m12 nofun,g3.get m12 nofun,g3.get m12 nofun,trivial⟩,_,_,_,m3,rfl,rfl,λ w4 m4 g4=>?_⟩⟩;have sj:GB none w2 w4:=g3.new g4 l3;have m14:w4.heap[b1]? = _:=sj.get m12 nofun;have m24:w4.heap[b2]? = _:=sj.get m2 nofun;have AY:b2≠b3:=by have:=ag m2;omega
  have QU:b1≠b3:=by have:=ag m12;omega
  refine ⟨_,_,m4,_,rfl,au (λ c=>?_) (λ c=>?_)⟩
  ·have c1:(1+q.k.tmod 4 == 2)=true:=c
   have c2:¬ (1+q.k.tmod 4 == 4)=true:=λ e=>by have:=eq_of_beq c1;have:=eq_of_beq e;omega
   refine ⟨_,_,m14,_,rfl,_,_,_,m4,rfl,rfl,λ w5 m5 g5=>?_⟩;have tN:w5.heap[b2]? = _:=g5.get m24 λ e=>AY (Option.some.inj e)
   refine ⟨_,_,m5,(cO q).cells,by unfold cO;rw [if_pos c1,if_neg c2,if_neg c2];rfl,rfl,_,_,_,tN,rfl,rfl,λ w6 m6 g6=>?_⟩;exact ⟨_,_,m6,(cO q).cells,rfl,rfl,rfl,(g1.trans ((g2.trans (sj.new g5 l3)))).new g6 (by have:=g1.size;omega)⟩
  ·have c1:¬ (1+q.k.tmod 4 == 2)=true:=λ e=>by have:(1+q.k.tmod 4 == 2)=false:=c;rw [this] at e;cases e
   refine au (λ d=>?_) (λ d=>?_)
   ·have c2:(1+q.k.tmod 4 == 4)=true:=d
    refine ⟨_,_,m14,_,rfl,_,EK w4 q.hi,?_⟩;rintro _ w5 ⟨rfl,rfl⟩;refine ⟨_,_,_,m4,rfl,rfl,λ w5 m5 g5=>?_⟩;have m15:w5.heap[b1]? = _:=g5.get m14 λ e=>QU (Option.some.inj e)
    have tN:w5.heap[b2]? = _:=g5.get m24 λ e=>AY (Option.some.inj e)
    refine ⟨_,_,m5,_,rfl,_,_,m5,_,rfl,au (λ x=>?_) (λ x=>?_)⟩
    ·have x1:jK q.hi<jK q.key:=of_decide_eq_true x
     refine ⟨_,_,m5,_,rfl,_,_,_,m5,rfl,rfl,λ w6 m6 g6=>?_⟩;have m16:w6.heap[b1]? = _:=g6.get m15 λ e=>QU (Option.some.inj e)
     have ZL:w6.heap[b2]? = _:=g6.get tN λ e=>AY (Option.some.inj e)
     refine ⟨_,_,m16,_,rfl,by decide,_,_,_,m6,rfl,rfl,λ w7 m7 g7=>?_⟩;have GV:w7.heap[b2]? = _:=g7.get ZL λ e=>AY (Option.some.inj e)
     refine ⟨_,_,m7,(cO q).cells,by unfold cO;rw [if_neg c1,if_pos c2,if_pos x1,if_pos c2];rfl,rfl,_,_,_,GV,rfl,rfl,λ w8 m8 g8=>?_⟩;exact ⟨_,_,m8,(cO q).cells,rfl,rfl,rfl,(g1.trans ((g2.trans (((sj.new g5 l3).new g6 l3).new g7 l3)))).new g8 (by have:=g1.size;omega)⟩
    ·have x1:¬ jK q.hi<jK q.key:=of_decide_eq_false x
     refine ⟨_,_,m15,_,rfl,by decide,_,_,_,m5,rfl,rfl,λ w7 m7 g7=>?_⟩;have GV:w7.heap[b2]? = _:=g7.get tN λ e=>AY (Option.some.inj e)
     refine ⟨_,_,m7,(cO q).cells,by unfold cO;rw [if_neg c1,if_pos c2,if_neg x1,if_pos c2];rfl,rfl,_,_,_,GV,rfl,rfl,λ w8 m8 g8=>?_⟩;exact ⟨_,_,m8,(cO q).cells,rfl,rfl,rfl,(g1.trans ((g2.trans ((sj.new g5 l3).new g7 l3)))).new g8 (by have:=g1.size;omega)⟩
   ·have c2:¬ (1+q.k.tmod 4 == 4)=true:=λ e=>by have:(1+q.k.tmod 4 == 4)=false:=d;rw [this] at e;cases e
    refine ⟨_,_,m4,(cO q).cells,by unfold cO;rw [if_neg c1,if_neg c2,if_neg c2];rfl,rfl,_,_,_,m24,rfl,rfl,λ w6 m6 g6=>?_⟩;exact ⟨_,_,m6,(cO q).cells,rfl,rfl,rfl,(g1.trans (g2.trans sj)).new g6 (by have:=g1.size;omega)⟩
 ·have m13:=g3.get m12 nofun
  refine ⟨⟨m13,m13,m13,m13,trivial⟩,_,EK w3 q.key,?_⟩;rintro _ w4 ⟨rfl,rfl⟩;refine ⟨⟨m13,m13,m13,m13,trivial⟩,_,_,_,m3,rfl,rfl,λ w4 m4 g4=>?_⟩;have sj:GB none w2 w4:=g3.new g4 l3;have m14:w4.heap[b1]? = _:=sj.get m12 nofun;have m24:w4.heap[b2]? = _:=sj.get m2 nofun;have AY:b2≠b3:=by have:=ag m2;omega
  have QU:b1≠b3:=by have:=ag m12;omega
  refine ⟨_,_,m4,_,rfl,au (λ c=>?_) (λ c=>?_)⟩
  ·have c1:(1+q.k.tmod 4 == 2)=true:=c
   have c2:¬ (1+q.k.tmod 4 == 4)=true:=λ e=>by have:=eq_of_beq c1;have:=eq_of_beq e;omega
   refine ⟨_,_,m14,_,rfl,_,_,_,m4,rfl,rfl,λ w5 m5 g5=>?_⟩;have tN:w5.heap[b2]? = _:=g5.get m24 λ e=>AY (Option.some.inj e)
   refine ⟨_,_,m5,(cO q).cells,by unfold cO;rw [if_pos c1,if_neg c2,if_neg c2];rfl,rfl,_,_,_,tN,rfl,rfl,λ w6 m6 g6=>?_⟩;exact ⟨_,_,m6,(cO q).cells,rfl,rfl,rfl,(g1.trans ((g2.trans (sj.new g5 l3)))).new g6 (by have:=g1.size;omega)⟩
  ·have c1:¬ (1+q.k.tmod 4 == 2)=true:=λ e=>by have:(1+q.k.tmod 4 == 2)=false:=c;rw [this] at e;cases e
   refine au (λ d=>?_) (λ d=>?_)
   ·have c2:(1+q.k.tmod 4 == 4)=true:=d
    refine ⟨_,_,m14,_,rfl,_,EK w4 q.hi,?_⟩;rintro _ w5 ⟨rfl,rfl⟩;refine ⟨_,_,_,m4,rfl,rfl,λ w5 m5 g5=>?_⟩;have m15:w5.heap[b1]? = _:=g5.get m14 λ e=>QU (Option.some.inj e)
    have tN:w5.heap[b2]? = _:=g5.get m24 λ e=>AY (Option.some.inj e)
    refine ⟨_,_,m5,_,rfl,_,_,m5,_,rfl,au (λ x=>?_) (λ x=>?_)⟩
    ·have x1:jK q.hi<jK q.key:=of_decide_eq_true x
     refine ⟨_,_,m5,_,rfl,_,_,_,m5,rfl,rfl,λ w6 m6 g6=>?_⟩;have m16:w6.heap[b1]? = _:=g6.get m15 λ e=>QU (Option.some.inj e)
     have ZL:w6.heap[b2]? = _:=g6.get tN λ e=>AY (Option.some.inj e)
     refine ⟨_,_,m16,_,rfl,by decide,_,_,_,m6,rfl,rfl,λ w7 m7 g7=>?_⟩;have GV:w7.heap[b2]? = _:=g7.get ZL λ e=>AY (Option.some.inj e)
     refine ⟨_,_,m7,(cO q).cells,by unfold cO;rw [if_neg c1,if_pos c2,if_pos x1,if_pos c2];rfl,rfl,_,_,_,GV,rfl,rfl,λ w8 m8 g8=>?_⟩;exact ⟨_,_,m8,(cO q).cells,rfl,rfl,rfl,(g1.trans ((g2.trans (((sj.new g5 l3).new g6 l3).new g7 l3)))).new g8 (by have:=g1.size;omega)⟩
    ·have x1:¬ jK q.hi<jK q.key:=of_decide_eq_false x
     refine ⟨_,_,m15,_,rfl,by decide,_,_,_,m5,rfl,rfl,λ w7 m7 g7=>?_⟩;have GV:w7.heap[b2]? = _:=g7.get tN λ e=>AY (Option.some.inj e)
     refine ⟨_,_,m7,(cO q).cells,by unfold cO;rw [if_neg c1,if_pos c2,if_neg x1,if_pos c2];rfl,rfl,_,_,_,GV,rfl,rfl,λ w8 m8 g8=>?_⟩;exact ⟨_,_,m8,(cO q).cells,rfl,rfl,rfl,(g1.trans ((g2.trans ((sj.new g5 l3).new g7 l3)))).new g8 (by have:=g1.size;omega)⟩
   ·have c2:¬ (1+q.k.tmod 4 == 4)=true:=λ e=>by have:(1+q.k.tmod 4 == 4)=false:=d;rw [this] at e;cases e
    refine ⟨_,_,m4,(cO q).cells,by unfold cO;rw [if_neg c1,if_neg c2,if_neg c2];rfl,rfl,_,_,_,m24,rfl,rfl,λ w6 m6 g6=>?_⟩;exact ⟨_,_,m6,(cO q).cells,rfl,rfl,rfl,(g1.trans (g2.trans sj)).new g6 (by have:=g1.size;omega)⟩
end
end Go.Proofs.YtignemioillaiabGreat
