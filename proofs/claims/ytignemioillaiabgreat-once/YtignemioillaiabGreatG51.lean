/- Lemmas. -/
import Derived.Test.YtignemioillaiabGreatG50
namespace Go.Proofs.YtignemioillaiabGreat
set_option maxHeartbeats 8000000
set_option maxRecDepth 100000
open List
section
open Go Go.Conc
def Mem.cells(m:Mem):List Value:=[.bool m.f,.int .u64 m.v,.int .u32 (m.sq 0),.int .u32 (m.sq 1),.int .u32 (m.sq 2),.int .u32 (m.sq 3)]++((m.sd 0).cells++((m.sd 1).cells++((m.sd 2).cells++(m.sd 3).cells)))
theorem c4{c:Int}(h:0<=c/\c<4):c=0\/c=1\/c=2\/c=3:=by omega
theorem P7(m:Mem){c:Int}(h:0<=c/\c<4):m.cells[0+2+c.toNat*1]?=some (.int .u32 (m.sq c.toNat)):=by
 rcases c4 h with rfl|rfl|rfl|rfl<;>rfl
theorem XT(m:Mem){c:Int}(h:0<=c/\c<4):aG m.cells (0+6+c.toNat*7) 7=(m.sd c.toNat).cells:=by
 rcases c4 h with rfl|rfl|rfl|rfl<;>rfl
def Mem.ps(m:Mem)(c:Nat)(s:Int):Mem:={m with sq:=λi=>if i=c then s else m.sq i}
theorem aaL(m:Mem){c:Int}(h:0<=c/\c<4)(s:Int):m.cells.take (0+2+c.toNat*1)++[.int .u32 s]++m.cells.drop (0+2+c.toNat*1+1)=(m.ps c.toNat s).cells:=by
 rcases c4 h with rfl|rfl|rfl|rfl<;>rfl
theorem XU(m:Mem){r:ag}(h:0<=r.c/\r.c<4):(m.ps r.c.toNat r.s).cells.take (0+6+r.c.toNat*7)++r.cells++(m.ps r.c.toNat r.s).cells.drop (0+6+r.c.toNat*7+7)=(m.put r).cells:=by
 obtain⟨c,s,key,k,f,v,g⟩:=r;rcases c4 h with rfl|rfl|rfl|rfl<;>rfl
theorem adV(m:Mem){c:Int}(h:0<=c/\c<4)(s:Int):Ce m.cells (0+2+c.toNat*1) 1 (.int .u32 s)=true:=by
 rcases c4 h with rfl|rfl|rfl|rfl<;>rfl
theorem aaM(m:Mem){c:Int}(h:0<=c/\c<4)(r:ag):Ce m.cells (0+6+c.toNat*7) 7 (.agg r.cells.toArray)=true:=by
 rcases c4 h with rfl|rfl|rfl|rfl<;>rfl
section
variable{m m':Mem}{q:aW}{r:ag}{fr:Bool}(ha:oo m q r m' fr)
include ha
theorem oo.k3(h:r.k=3):q.k=4/\r.s=q.s/\m'=m/\fr=false:=by
 cases ha with
 |red _ a b=>exact⟨a,b,rfl,rfl⟩
 |old a=>omega
 |same a=>exact(a h).elim
 |get _ _ e=>rw[e]at h;cases h
 |full _ _ e=>rw[e]at h;cases h
 |set _ _ e=>rw[e]at h;cases h
 |del _ _ e=>rw[e]at h;cases h
 |H8 _ _ e=>rcases e with e|e<;>(rw[e]at h;cases h)
theorem oo.lt(h:r.k≠3)(hl:q.s<m.sq q.c.toNat):r.k=4/\r.s=q.s/\m'=m/\fr=false:=by
 cases ha with
 |red a=>exact(h a).elim
 |old a b=>exact⟨a,b,rfl,rfl⟩
 |_=>omega
theorem oo.eq(h:r.k≠3)(hl:q.s=m.sq q.c.toNat):r=m.sd q.c.toNat/\m'=m/\fr=false:=by
 cases ha with
 |red a=>exact(h a).elim
 |same _ _ e=>exact⟨e,rfl,rfl⟩
 |_=>omega
theorem oo.gt(h:r.k≠3)(hl:m.sq q.c.toNat<q.s):fr=true/\((q.k=1/\r=⟨q.c,q.s,q.key,1,m.f,if m.f then m.v else 0,0⟩/\m'=m.put r)\/(q.k=2/\r=⟨q.c,q.s,q.key,5,false,0,0⟩/\m.f=false/\m'=m.put r)\/(q.k=2/\r=⟨q.c,q.s,q.key,2,false,0,0⟩/\m'={m.put r with f:=true,v:=q.v})\/(q.k=3/\r=⟨q.c,q.s,q.key,2,false,0,0⟩/\m'={m.put r with f:=false})\/q.k=4/\(r=⟨q.c,q.s,q.key,2,false,0,0⟩\/r=⟨q.c,q.s,q.key,5,false,0,0⟩)/\m'=m.put r):=by
 cases ha with
 |red a=>exact(h a).elim
 |old _ _=>omega
 |same _ _ _=>omega
 |get _ a e=>exact⟨rfl,.inl ⟨a,e,rfl⟩⟩
 |full _ a e f=>exact⟨rfl,.inr (.inl ⟨a,e,f,rfl⟩)⟩
 |set _ a e=>exact⟨rfl,.inr (.inr (.inl ⟨a,e,rfl⟩))⟩
 |del _ a e=>exact⟨rfl,.inr (.inr (.inr (.inl ⟨a,e,rfl⟩)))⟩
 |H8 _ a e=>exact⟨rfl,.inr (.inr (.inr (.inr ⟨a,e,rfl⟩)))⟩
end
abbrev AS(bm b6 b7:Nat)(t:Sg):Sg:=(0,Ptt bm)::(6,Ptt b6)::(7,Ptt b7)::t
structure AQ(w0 w:World)(bm b6 b7:Nat)(m:Mem)(q:aW)(r:ag):Prop where
 mm:Hl w bm m.cells 108
 m6:Hl w b6 q.cells 65
 m7:Hl w b7 r.cells 70
 n6:b6≠bm
 n7:b7≠bm
 g:GB (some bm) w0 w
 lt:bm<w0.heap.size
def AR(w0:World)(bm:Nat)(m':Mem)(fr:Bool)(q:Sg)(w:World):Prop:=∃b,q=[(4,.bool b),(5,.bool fr)]/\b=true/\Hl w bm m'.cells 108/\GB (some bm) w0 w
def rq7(q:aW)(r:ag):List Value:=q.cells++r.cells
theorem AQ.st{w0 w w':World}{bm b6 b7:Nat}{m m':Mem}{q:aW}{r:ag}(h:AQ w0 w bm b6 b7 m q r)(hm:Hl w' bm m'.cells 108)(g:GB (some bm) w w'):AQ w0 w' bm b6 b7 m' q r:=⟨hm,g.get h.m6 λe=>by cases e;exact h.n6 rfl,g.get h.m7 λe=>by cases e;exact h.n7 rfl,h.n6,h.n7,h.g.trans g,h.lt⟩
theorem AQ.gb{w0 w w':World}{bm b6 b7:Nat}{m:Mem}{q:aW}{r:ag}(h:AQ w0 w bm b6 b7 m q r)(g:GB none w w'):AQ w0 w' bm b6 b7 m q r:=⟨g.get h.mm nofun,g.get h.m6 nofun,g.get h.m7 nofun,h.n6,h.n7,h.g.trans g.weak,h.lt⟩
theorem AQ.ot{w0 w w':World}{bm b6 b7 b:Nat}{m:Mem}{q:aW}{r:ag}(h:AQ w0 w bm b6 b7 m q r)(g:GB (some b) w w')(hb:w0.heap.size<=b)(n6:b6≠b)(n7:b7≠b):AQ w0 w' bm b6 b7 m q r :=
 ⟨g.get h.mm λe=>by cases e;have:=h.lt;omega,g.get h.m6 λe=>by cases e;exact n6 rfl,g.get h.m7 λe=>by cases e;exact n7 rfl,h.n6,h.n7,⟨g.os.trans h.g.os,g.out.trans h.g.out,Jb1 h.g.size g.size,λx hx hr=>(g.block x (Jbz hx h.g.size) λe=>by cases e;omega).trans (h.g.block x hx hr)⟩,h.lt⟩
section
variable{w:World}{bm:Nat}{m m':Mem}{q:aW}{r:ag}{fr:Bool}
theorem aaN(ha:oo m q r m' fr)(hq:(0<=q.c/\q.c<4)/\r.c=q.c/\r.key=q.key)(hm:Hl w bm m.cells 108):CY 29 #[Ptt bm,.agg (rq7 q r).toArray] w (λv w'=>v=.tuple #[.bool true,.bool fr]/\Hl w' bm m'.cells 108/\GB (some bm) w w'):=by
 obtain⟨hc,h1,h2⟩:=hq;have ret:∀(q:Sg) (s:Sg) (w':World),AR w bm m' fr q w'->gz q s->yB fG Tryz.f29.results.toList (λv w'=>v=.tuple #[.bool true,.bool fr]/\Hl w' bm m'.cells 108/\GB (some bm) w w') .r s w':=by
  rintro _ s w' ⟨_,rfl,rfl,a,b⟩ hs;exact qO hs ⟨rfl,a,b⟩
 refine qh fG Tryz.func29 rfl rfl ?_;refine CS.piece (Q:=λs w1=>∃b3,s=[(0,Ptt bm),(3,Ptt b3)]/\Hl w1 b3 (rq7 q r) 112/\GB none w w1) (CS.e λw1 b3 m3 g1 l3=>⟨_,by exact sb rfl,b3,rfl,m3,g1⟩) ?_;rintro _ w1 ⟨b3,rfl,m3,g1⟩;refine CS.piece (Q:=λs w2=>∃b6,s=[(0,Ptt bm),(3,Ptt b3),(6,Ptt b6)]/\Hl w2 b6 q.cells 65/\GB none w1 w2/\w1.heap.size<=b6) (CS.e ?_) ?_
 .refine⟨_,_,m3,q.cells,rfl,rfl,λw2 b6 m6 g2 l6=>⟨_,_,_,m6,rfl,rfl,λw3 m6' g3=>?_⟩⟩
  exact⟨_,by exact sb rfl,b6,rfl,m6',g2.new g3 l6,l6⟩
 rintro _ w2 ⟨b6,rfl,m6,g2,l6⟩;have lm:=ae hm;have z1:=g1.size;have z2:=g2.size;refine CS.piece (Q:=λs w3=>∃b7,s=AS bm b6 b7 []/\AQ w w3 bm b6 b7 m q r) (CS.e ?_) ?_
 .refine⟨_,_,g2.get m3 nofun,r.cells,rfl,rfl,λw3 b7 m7 g3 l7=>⟨_,_,_,m7,rfl,rfl,λw4 m7' g4=>?_⟩⟩
  have G:GB none w2 w4:=g3.new g4 l7;exact⟨_,by exact sb rfl,b7,rfl,G.get (g2.get (g1.get hm nofun) nofun) nofun,G.get m6 nofun,m7',by omega,by omega,(g1.trans (g2.trans G)).weak,lm⟩
 clear g1 g2 m3 m6 l6 z1 z2 lm hm;rintro _ w3 ⟨b7,rfl,H⟩;refine CS.piece (Q:=λs w'=>s=AS bm b6 b7 []/\w'=w3) (CS.e ?_) ?_
 .refine⟨_,_,H.m7,_,rfl,_,_,H.m6,_,rfl,ah (λc=>?_) (λc=>?_)⟩
  .refine⟨_,_,H.m7,_,rfl,_,_,H.m6,_,rfl,ah (λc=>?_) (λc=>?_)⟩
   .rw[h2]at c;simp at c
   .exact⟨_,by exact sb rfl,rfl,rfl⟩
  .rw[h1]at c;simp at c
 rintro _ w3 ⟨rfl,rfl⟩;refine CS.cut (Qn:=λs w'=>r.k≠3/\s=AS bm b6 b7 []/\w'=w3) (Qx:=λ_ _ _=>False) (Qr:=AR w bm m' fr) (CS.e ?_) ?_ (λ_ _ _ _ h=>h.elim) ret
 .refine⟨_,_,H.m7,_,rfl,ah (λc=>?_) (λc=>?_)⟩
  .obtain⟨a,b,rfl,rfl⟩:=ha.k3 (eq_of_beq c)
   refine⟨_,_,H.m6,_,rfl,ah (λd=>?_) (λd=>?_)⟩
   .exact⟨_,_,H.m7,_,rfl,_,_,H.m6,_,rfl,_,by exact sb rfl,_,rfl,by rw[b];simp,H.mm,H.g⟩
   .rw[a]at d;simp at d
  .exact⟨_,by exact sb rfl,λe=>by rw[e]at c;simp at c,rfl,rfl⟩
 rintro _ w3 ⟨k3,rfl,rfl⟩;refine CS.piece (Q:=λs w'=>s=AS bm b6 b7 [(8,.int .i64 q.c)]/\w'=w3) (CS.e ?_) ?_
 .exact⟨_,_,H.m6,_,rfl,.inl ⟨by omega,_,by exact sb rfl,rfl,rfl⟩⟩
 rintro _ w3 ⟨rfl,rfl⟩;refine CS.piece (Q:=λs w'=>s=AS bm b6 b7 [(8,.int .i64 q.c)]/\w'=w3) (CS.e ?_) ?_
 .refine ah (λc=>?_) (λc=>?_)
  .have:=Ptq c;omega
  .exact⟨_,by exact sb rfl,rfl,rfl⟩
 rintro _ w3 ⟨rfl,rfl⟩;refine CS.cut (Qn:=λs w'=>¬q.s<m.sq q.c.toNat/\s=AS bm b6 b7 [(8,.int .i64 q.c)]/\w'=w3) (Qx:=λ_ _ _=>False) (Qr:=AR w bm m' fr) (CS.e ?_) ?_ (λ_ _ _ _ h=>h.elim) ret
 .refine⟨by kernel_rfl,_,_,H.m6,_,rfl,by omega,_,_,H.mm,_,P7 m hc,ah (λc=>?_) (λc=>?_)⟩
  .obtain⟨a,b,rfl,rfl⟩:=ha.lt k3 (Ptq c)
   refine⟨_,_,H.m7,_,rfl,ah (λd=>?_) (λd=>?_)⟩
   .exact⟨_,_,H.m7,_,rfl,_,_,H.m6,_,rfl,_,by exact sb rfl,_,rfl,by rw[b];simp,H.mm,H.g⟩
   .rw[a]at d;simp at d
  .exact⟨_,by exact sb rfl,Ptx c,rfl,rfl⟩
 rintro _ w3 ⟨nl,rfl,rfl⟩;refine CS.cut (Qn:=λs w'=>q.s≠m.sq q.c.toNat/\s=AS bm b6 b7 [(8,.int .i64 q.c)]/\w'=w3) (Qx:=λ_ _ _=>False) (Qr:=AR w bm m' fr) (CS.e ?_) ?_ (λ_ _ _ _ h=>h.elim) ret
 .refine⟨by kernel_rfl,_,_,H.m6,_,rfl,by omega,_,_,H.mm,_,P7 m hc,ah (λc=>?_) (λc=>?_)⟩
  .obtain⟨a,rfl,rfl⟩:=ha.eq k3 (eq_of_beq c)
   refine⟨by kernel_rfl,_,_,H.m7,r.cells,rfl,rfl,by omega,_,_,H.mm,(m'.sd q.c.toNat).cells,XT m' hc,rfl,_,by exact sb rfl,_,rfl,?_,H.mm,H.g⟩;rw[<-a];simp
  .exact⟨_,by exact sb rfl,λe=>by rw[e]at c;simp at c,rfl,rfl⟩
 rintro _ w3 ⟨ns,rfl,rfl⟩;obtain⟨rfl,fresh⟩:=ha.gt k3 (by omega);clear ha k3 nl ns;have hr:0<=r.c/\r.c<4:=by omega
 have rs:r.s=q.s:=by rcases fresh with⟨_,e,_⟩|⟨_,e,_⟩|⟨_,e,_⟩|⟨_,e,_⟩|⟨_,e|e,_⟩<;>rw[e]
 refine CS.piece (Q:=λs w'=>s=AS bm b6 b7 [(8,.int .i64 q.c)]/\AQ w w' bm b6 b7 (m.ps q.c.toNat q.s) q r) (CS.e ?_) ?_
 .refine⟨by kernel_rfl,_,_,H.m6,_,rfl,by omega,_,_,_,H.mm,adV m hc _,aaL m hc _,λw4 m4 g4=>?_⟩
  exact⟨_,by exact sb rfl,rfl,H.st m4 g4⟩
 clear H;rintro _ w3 ⟨rfl,H⟩;refine CS.piece (Q:=λs w'=>s=AS bm b6 b7 []/\AQ w w' bm b6 b7 (m.put r) q r) (CS.e ?_) ?_
 .have pd:(m.ps q.c.toNat q.s).cells.take (0+6+q.c.toNat*7)++r.cells++(m.ps q.c.toNat q.s).cells.drop (0+6+q.c.toNat*7+7)=(m.put r).cells:=by
   rw[<-h1,<-rs];exact XU m hr
  refine⟨by kernel_rfl,_,_,H.m7,r.cells,rfl,rfl,by omega,_,_,_,H.mm,aaM _ hc _,pd,λw4 m4 g4=>?_⟩;exact⟨_,by exact sb rfl,rfl,H.st m4 g4⟩
 clear H rs hr hc;rintro _ w3 ⟨rfl,H⟩;obtain⟨qc,qs,qk,mZ,qv,Y9,Za⟩:=q;dsimp only at h1 h2 fresh;refine CS.piece (Q:=λs w'=>∃b9,s=AS bm b6 b7 [(9,Ptt b9)]/\AQ w w' bm b6 b7 (m.put r) ⟨qc,qs,qk,mZ,qv,Y9,Za⟩ r/\Hl w' b9 (ag.cells ⟨qc,qs,mZ,2,false,0,0⟩) 70/\w3.heap.size<=b9) (CS.e ?_) ?_
 .refine⟨_,_,H.m6,_,rfl,_,_,H.m6,_,rfl,_,_,H.m6,_,rfl,λw4 b9 m9 g4 l9=>⟨_,_,_,m9,rfl,rfl,λw5 Df g5=>?_⟩⟩
  exact⟨_,by exact sb rfl,b9,rfl,H.gb (g4.new g5 l9),Df,l9⟩
 have z3:=H.g.size;have lm:=H.lt;have JE:=ae H.m6;have lt7:=ae H.m7;clear H;rintro _ w4 ⟨b9,rfl,H,m9,l9⟩;have n9:b9≠bm:=by omega
 refine CS.piece (Q:=λs w'=>∃b10,s=AS bm b6 b7 [(9,Ptt b9),(10,Ptt b10)]/\AQ w w' bm b6 b7 (m.put r) ⟨qc,qs,qk,mZ,qv,Y9,Za⟩ r/\Hl w' b9 (ag.cells ⟨qc,qs,mZ,2,false,0,0⟩) 70/\Hl w' b10 (ag.cells ⟨qc,qs,mZ,2,false,0,0⟩) 70/\w4.heap.size<=b10) (CS.e ?_) ?_
 .refine⟨_,_,m9,ag.cells ⟨qc,qs,mZ,2,false,0,0⟩,rfl,rfl,λw5 b10 m10 g4 l10=>⟨_,_,_,m10,rfl,rfl,λw6 Fy g5=>?_⟩⟩
  exact⟨_,by exact sb rfl,b10,rfl,H.gb (g4.new g5 l10),(g4.new g5 l10).get m9 nofun,Fy,l10⟩
 have z4:=H.g.size;have lt9:=ae m9;have ls6:=ae H.m6;have ls7:=ae H.m7;clear H m9;rintro _ w5 ⟨b10,rfl,H,m9,m10,l10⟩;refine CS.piece (Q:=λs w'=>s=AS bm b6 b7 [(9,Ptt b9),(10,Ptt b10)]/\AQ w w' bm b6 b7 (m.put r) ⟨qc,qs,qk,mZ,qv,Y9,Za⟩ r/\Hl w' b9 (ag.cells ⟨qc,qs,mZ,2,false,0,0⟩) 70/\Hl w' b10 (ag.cells ⟨qc,qs,mZ,5,false,0,0⟩) 70) (CS.e ?_) ?_
 .refine⟨_,_,_,m10,rfl,rfl,λw6 Fy g5=>?_⟩
  exact⟨_,by exact sb rfl,rfl,H.ot g5 (by omega) (by omega) (by omega),g5.get m9 (λe=>by cases e;omega),Fy⟩
 clear H m9 m10;rintro _ w6 ⟨rfl,H,m9,m10⟩;have w9:w.heap.size<=b9:=by omega
 have n69:b6≠b9:=by omega
 have n79:b7≠b9:=by omega
 refine CS.cut (Qn:=λs w'=>s=AS bm b6 b7 [(9,Ptt b9)]/\AQ w w' bm b6 b7 m' ⟨qc,qs,qk,mZ,qv,Y9,Za⟩ r/\Hl w' b9 (ag.cells ⟨qc,qs,mZ,2,false,0,0⟩) 70/\r=⟨qc,qs,mZ,2,false,0,0⟩) (Qx:=λ_ _ _=>False) (Qr:=AR w bm m' true) (CS.e ?_) ?_ (λ_ _ _ _ h=>h.elim) ret
 .rcases fresh with⟨rfl,e,rfl⟩|⟨rfl,e,hf,rfl⟩|⟨rfl,e,rfl⟩|⟨rfl,e,rfl⟩|⟨rfl,e,rfl⟩
  .obtain⟨f,v,sq,sd⟩:=m
   refine⟨_,_,H.m6,_,rfl,?_⟩;refine⟨_,_,_,m9,rfl,rfl,λw7 m9 g7=>?_⟩;have H:=H.ot g7 w9 n69 n79;refine⟨_,_,H.mm,_,rfl,_,_,_,m9,rfl,rfl,λw8 m9 g8=>?_⟩;have H:=H.ot g8 w9 n69 n79;cases f with
   |true =>
    refine⟨_,_,H.mm,_,rfl,?_⟩;refine⟨_,_,H.mm,_,rfl,_,_,_,m9,rfl,rfl,λw9' m9 g9=>?_⟩;have H:=H.ot g9 w9 n69 n79;refine⟨_,_,H.m7,r.cells,rfl,rfl,_,_,m9,ag.cells ⟨qc,qs,mZ,1,true,v,0⟩,rfl,rfl,_,by exact sb rfl,_,rfl,?_,H.mm,H.g⟩;rw[e];simp
   |false =>
    refine⟨_,_,H.mm,_,rfl,?_⟩;refine⟨_,_,H.m7,r.cells,rfl,rfl,_,_,m9,ag.cells ⟨qc,qs,mZ,1,false,0,0⟩,rfl,rfl,_,by exact sb rfl,_,rfl,?_,H.mm,H.g⟩;rw[e];simp
  .refine⟨_,_,H.m6,_,rfl,?_⟩
   refine⟨_,_,H.m7,r.cells,rfl,rfl,_,_,m10,ag.cells ⟨qc,qs,mZ,5,false,0,0⟩,rfl,rfl,ah (λc=>?_) (λc=>?_)⟩
   .exact⟨_,_,H.mm,_,rfl,_,by exact sb rfl,_,rfl,by show(!m.f)=true;rw[hf];rfl,H.mm,H.g⟩
   .rw[e]at c;simp at c
  .refine⟨_,_,H.m6,_,rfl,?_⟩
   refine⟨_,_,H.m7,r.cells,rfl,rfl,_,_,m10,ag.cells ⟨qc,qs,mZ,5,false,0,0⟩,rfl,rfl,ah (λc=>?_) (λc=>?_)⟩
   .rw[e]at c;simp at c
   .refine⟨_,_,_,H.mm,rfl,rfl,λw7 m7 g7=>?_⟩
    have H1:=H.st (m':={m.put r with f:=true}) m7 g7;refine⟨_,_,H1.m6,_,rfl,_,_,_,m7,rfl,rfl,λw8 m8 g8=>?_⟩;exact⟨_,by exact sb rfl,rfl,H1.st m8 g8,g8.get (g7.get m9 λq=>by cases q;exact n9 rfl) λq=>by cases q;exact n9 rfl,e⟩
  .refine⟨_,_,H.m6,_,rfl,?_⟩
   refine⟨_,_,_,H.mm,rfl,rfl,λw7 m7 g7=>?_⟩;exact⟨_,by exact sb rfl,rfl,H.st (m':={m.put r with f:=false}) m7 g7,g7.get m9 λq=>by cases q;exact n9 rfl,e⟩
  .refine⟨_,_,H.m6,_,rfl,?_⟩
   refine⟨_,_,H.m7,r.cells,rfl,rfl,_,_,m9,ag.cells ⟨qc,qs,mZ,2,false,0,0⟩,rfl,rfl,ah (λc=>?_) (λc=>?_)⟩
   .refine⟨_,_,H.m7,r.cells,rfl,rfl,_,_,m10,ag.cells ⟨qc,qs,mZ,5,false,0,0⟩,rfl,rfl,_,by exact sb rfl,_,rfl,?_,H.mm,H.g⟩
    rcases e with e|e
    .rw[e]at c;simp at c
    .rw[e];simp
   .exact⟨_,by exact sb rfl,true,rfl,rfl,H.mm,H.g⟩
 clear H m9 m10;rintro _ w7 ⟨rfl,H,m9,e⟩;refine CS.e ?_;refine⟨_,_,H.m7,r.cells,rfl,rfl,_,_,m9,ag.cells ⟨qc,qs,mZ,2,false,0,0⟩,rfl,rfl,?_,H.mm,H.g⟩;rw[e];simp
end
def H9(x:aW×ag):List Value:=rq7 x.1 x.2
theorem aaO(A:aI)(s:St){l:List MC}{k j:Nat}{c:MC}(h:j<k)(hc:l[j]?=some c):(dW A s l k)[j]?=some (A.ap (bR A s (l.take j)) c).2:=by
 unfold dW;rw[Jdd,getElem?_range h];show some (A.ap _ (l.getD j nu)).2=_;rw[Jdx,hc];rfl
structure FH(A:aI)(n:Nat)(ls:Nat->List MC)(fs:List (List MC×List St×List ag)):Prop where
 n0:0<n
 n4:n<=4
 l:fs.length=n
 f:∀g,g<n->fs[g]?=some (ls g,cK A (A.bg g n) (ls g) (ls g).length,dW A (A.bg g n) (ls g) (ls g).length)
 b:∀g,g<n->(ls g).length<=60
 m:∀g i,g<n->i<=(ls g).length->jK (eZ A n ls g i).M=true/\Can (eZ A n ls g i).M/\∀x,0<=own 0 (eZ A n ls g i).M x/\own 0 (eZ A n ls g i).M x<4
abbrev yo(fb n vc:Nat)(k:Int)(ov:Value)(g i h:Nat)(t:Sg):Sg:=(0,.slice (Pty fb) n vc)::(1,.int .u64 k)::(5,ov)::(6,.int .i64 g)::(7,.int .i64 i)::(8,.int .i64 h)::t
structure PW(w0 w:World)(ov:Value)(out:List (aW×ag)):Prop where
 o:w.ownsRow 0 112 14 ov out.length (out.map H9).flatten
 g:GB none w0 w
 n:∀x,ov.ownBlock=some x->w0.heap.size<=x
theorem PW.gb{w0 w w':World}{ov:Value}{out:List (aW×ag)}(h:PW w0 w ov out)(g:GB none w w'):PW w0 w' ov out:=⟨ax h.o λx hx=>by obtain⟨c,hc⟩:=au h.o hx;exact g.block x (ae hc) nofun,h.g.trans g,h.n⟩
section
variable{A:aI}{n:Nat}{ls:Nat->List MC}{fs:List (List MC×List St×List ag)}{w:World}{fb vc:Nat}{k:Int}
theorem Vo(H:FH A n ls fs)(hF:pG w (.slice (Pty fb) fs.length vc) fs)(hk:0<=k):CY 12 #[.slice (Pty fb) fs.length vc,.int .u64 k] w (λr w'=>PW w w' r (j6 A n ls k 5000 0 0 [])):=by
 have n4:=H.n4;have hl:=H.l;obtain⟨W,hW⟩:∃W,W=j6 A n ls k 5000 0 0 []:=⟨_,rfl⟩;rw[<-hW];refine qh fG Tryz.func12 rfl rfl ?_;refine CS.piece (Q:=λs w'=>s=[(0,.slice (Pty fb) fs.length vc),(1,.int .u64 k)]/\w'=w) (CS.e ⟨_,by exact sb rfl,rfl,rfl⟩) ?_;rintro _ w ⟨rfl,rfl⟩;refine CS.piece (Q:=λs w'=>s=[(0,.slice (Pty fb) fs.length vc),(1,.int .u64 k),(5,Ptz)]/\w'=w) (CS.e ⟨_,by exact sb rfl,rfl,rfl⟩) ?_;rintro _ w ⟨rfl,rfl⟩;refine CS.piece (Q:=λs w'=>s=[(0,.slice (Pty fb) fs.length vc),(1,.int .u64 k),(5,Ptz),(6,.int .i64 ((0:Nat):Int))]/\w'=w) (CS.e ⟨_,by exact sb rfl,rfl,rfl⟩) ?_;rintro _ w ⟨rfl,rfl⟩;refine CS.piece (Q:=λs w'=>s=[(0,.slice (Pty fb) fs.length vc),(1,.int .u64 k),(5,Ptz),(6,.int .i64 ((0:Nat):Int)),(7,.int .i64 ((0:Nat):Int))]/\w'=w) (CS.e ⟨_,by exact sb rfl,rfl,rfl⟩) ?_;rintro _ w ⟨rfl,rfl⟩;refine CS.cut (Qn:=λs w'=>∃ov,s=[(5,ov)]/\PW w w' ov W) (Qx:=λ_ _ _=>False) (Qr:=λs w'=>∃ov,s=[(4,ov)]/\PW w w' ov W) ?_ ?_ (λ_ _ _ _ h=>h.elim) ?_;rotate_left
 .rintro _ w' ⟨ov,rfl,h⟩
  refine CS.e ?_;exact h
 .rintro _ s w' ⟨ov,rfl,h⟩ hs
  exact qO hs h
 refine CS.piece (Q:=λs w'=>s=yo fb fs.length vc k Ptz 0 0 0 []/\w'=w) (CS.e ⟨_,by exact sb rfl,rfl,rfl⟩) ?_;rintro _ w ⟨rfl,rfl⟩;refine CS.block ?_;refine CS.loop (λm s wk=>∃(h g i:Nat) (out:List (aW×ag)) (ov:Value),m=5000-h/\h<=5000/\g<n/\i<=(ls g).length/\s=yo fb fs.length vc k ov g i h []/\W=j6 A n ls k (5000-h) g i out/\out.length<=h/\PW w wk ov out) ⟨_,_,⟨0,0,0,[],_,rfl,Jcm _,H.n0,Jcm _,rfl,hW,Jb0 _,eu _ _ _,GB.refl _ _,nofun⟩,sb rfl⟩ ?_;rintro m s wk ⟨h,g,i,out,ov,rfl,hh,hg,hi,rfl,hf,ho,P⟩;obtain⟨adX,p,hfb,Sb,Nz⟩:=hF.at (H.f g hg);obtain⟨a1,d1,a2,d2,a3,d3,rfl⟩:=Nz.sl;refine CS.cut (Qn:=λs w'=>(i<(ls g).length/\h<5000)/\s=yo fb fs.length vc k ov g i h []/\w'=wk) (Qx:=λj s w'=>j=0/\W=out/\s=[(5,ov)]/\w'=wk) (Qr:=λ_ _=>False) (CS.e ?_) ?_ ?_ (λ_ _ _ h _=>h.elim)
 .refine⟨by omega,_,_,P.g.get hfb nofun,.slice a1 (ls g).length d1,by show adX.toList[0+(g:Int).toNat*3+0]?=_;rw[Jbh,Jfa];exact Vj Sb rfl (by decide),ah (λc=>?_) (λc=>?_)⟩
  .have c1:=Ptq (b11 c)
   refine ah (λc'=>?_) (λc'=>?_)
   .exact⟨_,by exact sb rfl,⟨by omega,by have:=Ptq c';omega⟩,rfl,rfl⟩
   .refine⟨_,by exact sb rfl,rfl,?_,rfl,rfl⟩
    have:=Ptx c';rw[hf,show 5000-h=0 by omega];rfl
  .refine⟨_,by exact sb rfl,rfl,?_,rfl,rfl⟩
   have:=Ptx (b10 c);rw[hf];cases 5000-h with
   |zero=>rfl
   |succ m=>unfold j6;rw[Jcg (by omega)]
 rotate_left
 .rintro j _ s w' ⟨rfl,e,rfl,rfl⟩ hs
  exact⟨_,hs,ov,rfl,by rw[e];exact P⟩
 rintro _ wk ⟨⟨c1,c2⟩,rfl,rfl⟩;obtain⟨c,hc⟩:∃c,(ls g)[i]?=some c:=⟨(ls g)[i],by simp[c1]⟩;obtain⟨N,eN⟩:∃N,5000-h=N+1:=⟨5000-h-1,by omega⟩;have b60:=H.b g hg;refine CS.cut (Qn:=λs w'=>∃(g' i':Nat) (out':List (aW×ag)) (Ib:Value),g'<n/\i'<=(ls g').length/\s=yo fb fs.length vc k Ib g' i' h []/\W=j6 A n ls k N g' i' out'/\out'.length<=h+1/\PW w w' Ib out') (Qx:=λ_ _ _=>False) (Qr:=λs w'=>∃ov,s=[(4,ov)]/\PW w w' ov W) ?_ ?_ (λ_ _ _ _ h=>h.elim) (λq s w' hq hs=>⟨q,hs,hq⟩);rotate_left
 .rintro _ w' ⟨g',i',out',Ib,x1,x2,rfl,x4,x5,x6⟩
  obtain⟨oa,oc,rfl⟩:=af x6.o;refine CS.e ?_;exact⟨by omega,_,_,⟨h+1,g',i',out',_,rfl,by omega,x1,x2,rfl,by rw[x4];congr 1;omega,x5,x6⟩,(sb rfl),by omega⟩
 refine CS.block ?_;have stl:(cK A (A.bg g n) (ls g) (ls g).length).length=(ls g).length+1:=by unfold cK;rw[Jf6,length_range]
 have rpl:(dW A (A.bg g n) (ls g) (ls g).length).length=(ls g).length:=by unfold dW;rw[Jf6,length_range]
 obtain⟨s0,hs0⟩:∃s0,s0=eZ A n ls g i:=⟨_,rfl⟩;obtain⟨s1,hs1⟩:∃s1,s1=eZ A n ls g (i+1):=⟨_,rfl⟩;obtain⟨rp,hrp⟩:∃rp,rp=(A.ap s0 c).2:=⟨_,rfl⟩;have t0:(cK A (A.bg g n) (ls g) (ls g).length)[i]?=some s0:=by rw[hs0];exact De _ _ _ hi
 have t1:(cK A (A.bg g n) (ls g) (ls g).length)[i+1]?=some s1:=by rw[hs1];exact De _ _ _ c1
 have t2:(dW A (A.bg g n) (ls g) (ls g).length)[i]?=some rp:=by rw[hrp,hs0];exact aaO _ _ c1 hc
 obtain⟨x0,y0,v0⟩:=H.m g i hg hi;obtain⟨x1,y1,v1⟩:=H.m g (i+1) hg c1;rw[<-hs0]at x0 y0 v0;rw[<-hs1]at x1 y1 v1;obtain⟨o0,ho0⟩:∃o0,o0=own 0 s0.M k:=⟨_,rfl⟩;obtain⟨o1,ho1⟩:∃o1,o1=own 0 s1.M k:=⟨_,rfl⟩;have Zb:iF A n ls k g i c=if c.kind=1/\c.q.key=k then[(c.q,rp)]else[]:=by unfold iF;rw[<-hs0,<-hrp]
 have jw:W=if o0=g then(if o1=g then j6 A n ls k N g (i+1) (out++iF A n ls k g i c)else if n<=o1.toNat then out++iF A n ls k g i c else match qJ A n ls o1.toNat g (aP s0.O o1.toNat).1 with|none=>out++iF A n ls k g i c|some a=>j6 A n ls k N o1.toNat a (out++iF A n ls k g i c))else j6 A n ls k N g (i+1) out:=by
  rw[hf,eN];conv=>lhs;unfold j6
  rw[hc,ho0,ho1,hs0,hs1];rfl
 clear hf eN hrp;generalize cK A (A.bg g n) (ls g) (ls g).length=gI at Nz Sb stl t0 t1;generalize dW A (A.bg g n) (ls g) (ls g).length=qC at Nz Sb rpl t2;obtain⟨gx,Ng,UW,UX,ex,_,hcx,hex,hrx⟩:=(show jL w (.slice a1 (ls g).length d1) (ls g)from Nz.lg).el hc;obtain⟨_,_,_,_,_,_,e1,e2⟩:=hrx.sl;subst ex e1 e2;obtain⟨gb,cap,cur,⟨T,M,D,O,I⟩,e1,e2,e3,e4⟩:=(show vZ w (.slice a2 gI.length d2) gI from Nz.st).el t0;obtain⟨gb',cap',cur',⟨T',M',D',O',I'⟩,f1,f2,f3,f4⟩:=(show vZ w (.slice a2 gI.length d2) gI from Nz.st).el t1;obtain⟨ta,tn,tc,ma,mn,mc,da,dn,dc,sa,sn,sc,ia,il,ic,e5⟩:=fE.sl e4;obtain⟨rfl,rfl,rfl,rfl,rfl⟩:T=_/\M=_/\D=_/\O=_/\I=_:=e5;obtain⟨ta',tn',tc',ma',mn',mc',qf,vH,qg,sa',sn',sc',Y4,Y5,Y6,e6⟩:=fE.sl f4;obtain⟨rfl,rfl,rfl,rfl,rfl⟩:T'=_/\M'=_/\D'=_/\O'=_/\I'=_:=e6;cases e1
 cases f1
 have lr:i<qC.length:=by omega
 obtain⟨rb,Sa,ahN,er,hrb,rel⟩:=uV (show w.ownsRow 0 70 7 (.slice a3 qC.length d3) qC.length (qC.map ag.cells).flatten from Nz.rp) lr (show _=rp.cells by rw[<-Jfx];exact jb (f:=ag.cells) (λ_=>rfl) qC i rp t2);cases er
 obtain⟨oa,oc,rfl⟩:=af P.o;refine CS.piece (Q:=λs w'=>∃b9,s=yo fb fs.length vc k (.slice oa out.length oc) g i h [(9,Ptt b9)]/\Hl w' b9 (yn (.slice (Pty gx) (ls g).length d1,.slice (Pty gb) gI.length d2,.slice (Pty rb) qC.length d3)) 102/\GB none wk w') (CS.e ?_) ?_
 .refine⟨by omega,_,_,P.g.get hfb nofun,yn (.slice (Pty gx) (ls g).length d1,.slice (Pty gb) gI.length d2,.slice (Pty rb) qC.length d3),by show aG adX.toList (0+(g:Int).toNat*3) 3=_;rw[Jbh,Jfa];exact Sb,rfl,λw1 b9 m9 g1 l9=>⟨_,_,_,m9,rfl,rfl,λw2 Df g2=>?_⟩⟩
  exact⟨_,by exact sb rfl,b9,rfl,Df,g1.new g2 l9⟩
 rintro _ w1 ⟨b9,rfl,m9,g1⟩;replace P:=P.gb g1;clear g1;refine CS.piece (Q:=λs w'=>∃b10,s=yo fb fs.length vc k (.slice oa out.length oc) g i h [(9,Ptt b9),(10,Ptt b10)]/\(∃rv dv,Hl w' b10 (dF c rv dv) 80)/\GB none w1 w') (CS.e ?_) ?_
 .refine⟨_,_,m9,_,rfl,by omega,_,_,P.g.get hcx nofun,dF c _ _,by show aG Ng.toList (0+(i:Int).toNat*17) 17=_;rw[Jbh,Jfa];exact hex,rfl,λw2 b10 m10 g1 l10=>⟨_,_,_,m10,rfl,rfl,λw3 Fy g2=>?_⟩⟩
  exact⟨_,by exact sb rfl,b10,rfl,⟨_,_,Fy⟩,g1.new g2 l10⟩
 rintro _ w2 ⟨b10,rfl,⟨rv,dv,m10⟩,g2⟩;replace P:=P.gb g2;replace m9:=g2.get m9 nofun;clear hcx hex hrx g2;refine CS.piece (Q:=λs w'=>∃b,s=yo fb fs.length vc k (.slice oa out.length oc) g i h [(9,Ptt b9),(10,Ptt b10),(11,.bool b)]/\b=decide (o0=g)/\GB none w2 w') (CS.e ?_) ?_
 .refine⟨_,_,m9,_,rfl,by omega,_,_,P.g.get e2 nofun,kU s0 ⟨.slice ta tn tc,.slice ma mn mc,.slice da dn dc,.slice sa sn sc,.slice ia il ic⟩,by show aG cur.toList (0+(i:Int).toNat*7) 7=_;rw[Jbh,Jfa];exact e3,rfl,_,Ny (fE.kz e4 P.g.kz) x0 y0 hk (v0 k),?_⟩
  rintro _ w3 ⟨rfl,g3⟩;rw[<-ho0];exact⟨_,by exact sb rfl,o0==(g:Int),rfl,by by_cases e:o0=g<;>simp[e],g3⟩
 rintro _ w3 ⟨b,rfl,hb,g3⟩;replace P:=P.gb g3;replace m9:=g3.get m9 nofun;replace m10:=g3.get m10 nofun;clear g3;obtain⟨out',ho'⟩:∃out',out'=if b then out++iF A n ls k g i c else out:=⟨_,rfl⟩
 have lo':out'.length<=h+1:=by
  have:(iF A n ls k g i c).length<=1:=by rw[Zb];split<;>simp
  rw[ho'];split
  .rw[Jc6];omega
  .omega
 refine CS.piece (Q:=λs w'=>∃oa oc,s=yo fb fs.length vc k (.slice oa out'.length oc) g i h [(9,Ptt b9),(11,.bool b)]/\PW w w' (.slice oa out'.length oc) out'/\Hl w' b9 (yn (.slice (Pty gx) (ls g).length d1,.slice (Pty gb) gI.length d2,.slice (Pty rb) qC.length d3)) 102) (CS.e ?_) ?_
 .cases b with
  |false =>
   subst ho';exact⟨_,by exact sb rfl,oa,oc,rfl,P,m9⟩
  |true =>
   refine⟨_,_,m10,_,rfl,ah (λd=>?_) (λd=>?_)⟩
   .refine⟨_,_,m10,_,rfl,ah (λd'=>?_) (λd'=>?_)⟩
    .have e:out'=out++[(c.q,rp)]:=by rw[ho',Jb6 rfl,Zb,Jb6 ⟨eq_of_beq (b11 d),eq_of_beq d'⟩]
     refine⟨by kernel_rfl,_,_,m10,c.q.cells,rfl,rfl,_,_,m9,_,rfl,by omega,_,_,P.g.get hrb nofun,rp.cells,by show aG ahN.toList (0+(i:Int).toNat*7) 7=_;rw[Jbh,Jfa];exact rel,rfl,λw4 b4 m4 g4 l4=>?_⟩;have P4:=P.gb g4;refine⟨_,H9 (c.q,rp),P4.o,⟨_,_,m4,rfl,rfl,rfl⟩,by omega,λIb w5 Bj g5 n5=>?_⟩;obtain⟨ua,uc,rfl⟩:=af Bj;have Df:w5.heap[b9]?=_:=g5.get (g4.get m9 nofun) λq=>by obtain⟨c',hc'⟩:=au P4.o q.symm;exact gJ (g4.get m9 nofun) hc' (by decide) rfl
     refine⟨yo fb fs.length vc k (.slice ua (out.length+1) uc) g i h [(9,Ptt b9),(11,.bool true)],by exact sb rfl,ua,uc,by rw[e,Jc6];rfl,⟨?_,GB.ownB P4.g g5 P4.n,λx hx=>by
      rw[e,Jc6]at hx;exact(n5 x hx).elim (P4.n x) λq=>by have:=P4.g.size;omega⟩,Df⟩
     rw[e,Jc6,Jda,Jfr,show(map H9 [(c.q,rp)]).flatten=H9 (c.q,rp)by simp];exact Bj
    .have e:out'=out:=by rw[ho',Jb6 rfl,Zb,Jb5,Jc1];rintro⟨_,q⟩;rw[q]at d';simp at d'
     subst e;exact⟨_,by exact sb rfl,oa,oc,rfl,P,m9⟩
   .have e:out'=out:=by rw[ho',Jb6 rfl,Zb,Jb5,Jc1];rintro⟨q,_⟩;rw[q]at d;simp at d
    subst e;exact⟨_,by exact sb rfl,oa,oc,rfl,P,m9⟩
 clear P m9 m10 hrb rel;rintro _ w4 ⟨oa,oc,rfl,P,m9⟩;refine CS.piece (Q:=λs w'=>s=yo fb fs.length vc k (.slice oa out'.length oc) g i h [(9,Ptt b9),(11,.bool b),(12,.int .i64 o1)]/\GB none w4 w') (CS.e ?_) ?_
 .refine⟨_,_,m9,_,rfl,by omega,by omega,_,_,P.g.get f2 nofun,kU s1 ⟨.slice ta' tn' tc',.slice ma' mn' mc',.slice qf vH qg,.slice sa' sn' sc',.slice Y4 Y5 Y6⟩,by show aG cur'.toList (0+((i:Int)+1).toNat*7) 7=_;rw[Jbh,show((i:Int)+1).toNat=i+1 by omega];exact f3,rfl,_,Ny (fE.kz f4 P.g.kz) x1 y1 hk (v1 k),?_⟩
  rintro _ w5 ⟨rfl,g5⟩;rw[<-ho1];exact⟨_,by exact sb rfl,rfl,g5⟩
 rintro _ w5 ⟨rfl,g5⟩;replace P:=P.gb g5;replace m9:=g5.get m9 nofun;have v1k:=v1 k;rw[<-ho1]at v1k;clear g5 f2 f3 f4 x1 y1 v1 ho1;refine CS.piece (Q:=λs w'=>s=yo fb fs.length vc k (.slice oa out'.length oc) g (i+1) h [(9,Ptt b9),(11,.bool b),(12,.int .i64 o1)]/\w'=w5) (CS.e ?_) ?_
 .exact⟨by omega,_,by exact sb rfl,rfl,rfl⟩
 rintro _ w5 ⟨rfl,rfl⟩;cases b with
 |false =>
  have ne:¬o0=g:=Ptx hb.symm;rw[Jb5 ne]at jw;subst ho';refine CS.e ?_;exact⟨_,by exact sb rfl,g,i+1,_,_,hg,c1,rfl,jw,lo',P⟩
 |true =>
  have e0:o0=g:=Ptq hb.symm;rw[Jb6 e0]at jw;rw[Jb6 rfl]at ho';rw[<-ho']at jw;by_cases e1:o1=g
  .rw[Jb6 e1]at jw
   refine CS.e ?_;refine ah (λc=>?_) (λc=>?_)
   .rw[e1]at c;simp at c
   .exact⟨_,by exact sb rfl,g,i+1,out',_,hg,c1,rfl,jw,lo',P⟩
  rw[Jb5 e1]at jw;refine CS.piece (Q:=λs w'=>∃b,s=yo fb fs.length vc k (.slice oa out'.length oc) g (i+1) h [(9,Ptt b9),(12,.int .i64 o1),(85,.bool b)]/\b=true/\w'=w5) (CS.e ⟨_,by exact sb rfl,!(o1==(g:Int)),rfl,by simp;exact e1,rfl⟩) ?_;rintro _ w5 ⟨_,rfl,rfl,rfl⟩;refine CS.cond true rfl ?_;refine CS.cut (Qn:=λs w'=>o1.toNat<n/\s=yo fb fs.length vc k (.slice oa out'.length oc) g (i+1) h [(9,Ptt b9),(12,.int .i64 o1)]/\w'=w5) (Qx:=λ_ _ _=>False) (Qr:=λs w'=>∃ov,s=[(4,ov)]/\PW w w' ov W) (CS.e ?_) ?_ (λ_ _ _ _ h=>h.elim) (λq s w' hq hs=>⟨q,hs,hq⟩)
  .refine ah (λc=>?_) (λc=>?_)
   .refine ah (λc'=>?_) (λc'=>?_)
    .have:=Ptq c'
     rw[Jb6 (by omega)]at jw;exact⟨_,by exact sb rfl,_,rfl,by rw[jw];exact P⟩
    .exact⟨_,by exact sb rfl,by have:=Ptx c';omega,rfl,rfl⟩
   .have:=Ptq (b00 c);omega
  rintro _ w5 ⟨hd,rfl,rfl⟩;rw[Jb5 (by omega)]at jw;obtain⟨d,rfl⟩:∃d:Nat,o1=d:=⟨o1.toNat,by omega⟩;rw[Jfa]at jw hd;have b6:=H.b d hd;obtain⟨ae8,p2,adZ,ae9,ad1⟩:=hF.at (H.f d hd);obtain⟨a1',d1',a2',d2',a3',d3',rfl⟩:=ad1.sl;obtain⟨sq,Yn⟩:∃sq,sq=(aP s0.O d).1:=⟨_,rfl⟩;rw[<-Yn]at jw;refine CS.piece (Q:=λs w'=>∃av,s=yo fb fs.length vc k (.slice oa out'.length oc) g (i+1) h [(12,.int .i64 d),(13,.int .i64 av)]/\av=(match(List.range (ls d).length).find? (qI A n ls d g sq)with|some i=>(i:Int)+1|none=>-1)/\GB none w5 w') (CS.e ?_) ?_
  .have hla:=aaI (fE.kz e4 P.g.kz) d
   rw[<-Yn]at hla;refine⟨by kernel_rfl,by omega,_,_,P.g.get adZ nofun,yn _,by show aG ae8.toList (0+(d:Int).toNat*3) 3=_;rw[Jbh,Jfa];exact ae9,rfl,_,_,m9,_,rfl,by omega,by omega,_,_,P.g.get e2 nofun,kU s0 ⟨.slice ta tn tc,.slice ma mn mc,.slice da dn dc,.slice sa sn sc,.slice ia il ic⟩,by show aG cur.toList (0+(((i+1:Nat):Int)-1).toNat*7) 7=_;rw[Jbh,show(((i+1:Nat):Int)-1).toNat=i by omega];exact e3,rfl,_,hla,?_⟩;rintro _ w6 ⟨⟨q,rfl,_⟩,g6⟩;have G6:=P.g.trans g6;refine⟨⟨G6.get e2 nofun,g6.get m9 nofun,G6.get adZ nofun,trivial⟩,_,aaJ (ad1.nf (.of G6)) (show(ls d).length<=1000 by omega) (by unfold cK;rw[Jf6,length_range]) (λi hi=>De _ _ _ hi) g sq (P:=qI A n ls d g sq) (λ_=>rfl),?_⟩;rintro _ w7 ⟨rfl,g7⟩;exact⟨_,by exact sb rfl,_,rfl,rfl,g6.trans g7⟩
  rintro _ w6 ⟨av,rfl,Dj,g6⟩;replace P:=P.gb g6;refine CS.e ?_;have ecm:qJ A n ls d g sq=((List.range (ls d).length).find? (qI A n ls d g sq)).map (· + 1):=rfl;refine ah (λc=>?_) (λc=>?_)
  .have:=Ptq c
   cases hfi:(List.range (ls d).length).find? (qI A n ls d g sq)with
   |none =>
    rw[ecm,hfi]at jw;have jw:W=out':=jw;exact⟨_,by exact sb rfl,_,rfl,by rw[jw];exact P⟩
   |some a=>rw[hfi]at Dj;have Dj:av=((a+1:Nat):Int):=Dj;omega
  .have:=Ptx c
   cases hfi:(List.range (ls d).length).find? (qI A n ls d g sq)with
   |none=>rw[hfi]at Dj;have Dj:av = -1:=Dj;omega
   |some a =>
    rw[ecm,hfi]at jw;have jw:W=j6 A n ls k N d (a+1) out':=jw;rw[hfi]at Dj;have Dj:av=((a+1:Nat):Int):=Dj;subst Dj;exact⟨_,by exact sb rfl,d,a+1,out',_,hd,Jc3.1 (Jfd hfi),rfl,jw,lo',P⟩
end
end
