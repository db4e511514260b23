/- Lemmas. -/
import Derived.Test.YtignemioillaiabGreatG51
namespace Go.Proofs.YtignemioillaiabGreat
set_option maxHeartbeats 8000000
set_option maxRecDepth 100000
open List
section
open Go Go.Conc
theorem Mm.chain{k:Int}{W:List (aW×ag)}{m:Mem}{e:List ag}(h:Mm k W m e):∃(ms:Nat->Mem) (es:Nat->List ag),ms 0=.z/\es 0=[]/\ms W.length=m/\es W.length=e/\∀i q r,W[i]?=some (q,r)->((0<=q.c/\q.c<4)/\r.c=q.c/\r.key=q.key)/\(es i).length<=i/\∃b,oo (ms i) q r (ms (i+1)) b/\es (i+1)=if b then es i++[r]else es i:=by
 induction h with
 |nil=>exact⟨λ_=>.z,λ_=>[],rfl,rfl,rfl,rfl,λi q r h=>by simp at h⟩
 | @snoc l m m' e q r b h hq ha ih =>
  obtain⟨ms,es,h1,h2,h3,h4,h5⟩:=ih;have le:=h.facts.2.2.2.2.2.2;refine⟨λi=>if i<=l.length then ms i else m',λi=>if i<=l.length then es i else if b then e++[r]else e,by simp[h1],by simp[h2],Jb5 (by simp),Jb5 (by simp),λi q' r' hi=>?_⟩;rw[Jgw]at hi;split at hi
  .rename_i lt
   obtain⟨a,b,c⟩:=h5 i q' r' hi;simp only[Jb6 (Jft lt),Jb6 (show i+1<=l.length from lt)];exact⟨a,b,c⟩
  .rename_i lt
   have ei:i=l.length:=by have:=(Jcn.1 hi).1;simp at this;omega
   subst ei;simp at hi;obtain⟨rfl,rfl⟩:=hi;simp only[Jb0,Jb8,Jb5 (show ¬l.length+1<=l.length by omega)];refine⟨⟨hq.1,hq.2.2.2.1,by rw[hq.2.2.2.2,hq.2.2.1]⟩,by rw[h4];exact le,b,by rw[h3];exact ha,by rw[h4]⟩
theorem afa{l:List (aW×ag)}{k:Nat}{p:aW×ag}(h:l[k]?=some p):aG (l.map H9).flatten (k*14) 14=H9 p:=by
 rw[<-Jfx];exact jb (f:=H9) (λ_=>rfl) l k p h
theorem afb{l:List (ag×Nat)}{k:Nat}{p:ag×Nat}(h:l[k]?=some p):aG (l.map yc).flatten (k*8) 8=yc p:=by
 rw[<-Jfx];exact jb (f:=yc) (λ_=>rfl) l k p h
theorem Zc{l:List ag}{k:Nat}{p:ag}(h:l[k]?=some p):aG (l.map ag.cells).flatten (k*7) 7=p.cells:=by
 rw[<-Jfx];exact jb (f:=ag.cells) (λ_=>rfl) l k p h
theorem NA{l x y:List Value}{d n a b:Nat}(h:aG l d n=x)(hx:aG x a b=y)(hn:a+b<=n):aG l (d+a) b=y:=by
 rw[<-hx,<-h];unfold aG;rw[Jfj,Jd5,drop_drop,Jd7 (by omega)]
structure EW(w0 w:World)(ov:Value)(e:List ag):Prop where
 o:w.ownsRow 0 70 7 ov e.length (e.map ag.cells).flatten
 g:GB none w0 w
 n:∀x,ov.ownBlock=some x->w0.heap.size<=x
theorem EW.gb{w0 w w':World}{ov:Value}{e:List ag}(h:EW w0 w ov e)(g:GB none w w'):EW w0 w' ov e:=⟨ax h.o λx hx=>by obtain⟨c,hc⟩:=au h.o hx;exact g.block x (ae hc) nofun,h.g.trans g,h.n⟩
abbrev NB(bs:Nat)(wv tv:Value)(k:Int)(t:Sg):Sg:=(0,Ptt bs)::(1,wv)::(2,tv)::(3,.int .u64 k)::t
abbrev OV(bs:Nat)(wa:Option Addr)(W:List (aW×ag))(wc:Nat)(ta:Option Addr)(L:List (ag×Nat))(tc:Nat)(k:Int)(t:Sg):Sg:=NB bs (.slice wa W.length wc) (.slice ta L.length tc) k t
abbrev OT(bs:Nat)(wa:Option Addr)(W:List (aW×ag))(wc:Nat)(ta:Option Addr)(L:List (ag×Nat))(tc:Nat)(k:Int)(oa:Option Addr)(e:List ag)(oc i:Nat)(t:Sg):Sg:=OV bs wa W wc ta L tc k ((10,.slice oa e.length oc)::(14,.int .i64 i)::t)
section
variable{Λ:bW}{w:World}{bs:Nat}{S:Sit}{k:Int}{W:List (aW×ag)}{m:Mem}{e:List ag}{wa ta:Option Addr}{wc tc:Nat}{L:List (ag×Nat)}
theorem Sd(h:dX Λ bs S w)(hl:S.asks.length<=1000000)(hm:Mm k W m e)(hWl:W.length<=4000)(hW:w.ownsRow 0 112 14 (.slice wa W.length wc) W.length (W.map H9).flatten)(hLl:L.length<=20000)(hL:w.ownsRow 0 72 8 (.slice ta L.length tc) L.length (L.map yc).flatten)(hT:∀y∈L,y.1.key=k->y.1.k≠3->y.1.k≠4->y.1∈e/\∀v:Nat,e[v]?=some y.1->∀j,j<v->∀z,e[j]?=some z->∀a,S.asks.find? (sZ z)=some a->a.p<=y.2):CY 11 #[Ptt bs,.slice wa W.length wc,.slice ta L.length tc,.int .u64 k] w (λv w'=>v=.bool true/\GB none w w'):=by
 obtain⟨ms,es,h1,h2,h3,h4,h5⟩:=hm.chain;have le:=hm.facts.2.2.2.2.2.2;refine qh fG Tryz.func11 rfl rfl ?_;refine CS.piece (Q:=λs w'=>s=OV bs wa W wc ta L tc k []/\w'=w) (CS.e ⟨_,by exact sb rfl,rfl,rfl⟩) ?_;rintro _ w ⟨rfl,rfl⟩;refine CS.piece (Q:=λs w'=>∃bm,s=OV bs wa W wc ta L tc k [(9,Ptt bm)]/\w'.heap[bm]?=some (.cells (ms 0).cells.toArray 108)/\GB none w w'/\w.heap.size<=bm) (CS.e λw1 bm mm g1 lm=>⟨_,by exact sb rfl,bm,rfl,by rw[h1];exact mm,g1,lm⟩) ?_;rintro _ w1 ⟨bm,rfl,mm,g1,lm⟩;refine CS.piece (Q:=λs w'=>s=OV bs wa W wc ta L tc k [(9,Ptt bm),(10,Ptz)]/\w'=w1) (CS.e ⟨_,by exact sb rfl,rfl,rfl⟩) ?_;rintro _ w1 ⟨rfl,rfl⟩;refine CS.piece (Q:=λs w'=>∃ov,s=OV bs wa W wc ta L tc k [(10,ov)]/\EW w w' ov e) ?_ ?_
 .refine CS.piece (Q:=λs w'=>s=OV bs wa W wc ta L tc k [(9,Ptt bm),(10,Ptz),(11,.int .i64 ((0:Nat):Int))]/\w'=w1) (CS.e ⟨_,by exact sb rfl,rfl,rfl⟩) ?_
  rintro _ w1 ⟨rfl,rfl⟩;refine CS.block ?_;refine CS.loop (λm s wk=>∃(i:Nat) (ov:Value),m=W.length-i/\i<=W.length/\s=OV bs wa W wc ta L tc k [(9,Ptt bm),(10,ov),(11,.int .i64 i)]/\wk.heap[bm]?=some (.cells (ms i).cells.toArray 108)/\EW w wk ov (es i)) ⟨_,_,⟨0,Ptz,rfl,Jcm _,rfl,mm,by rw[h2];exact eu _ _ _,g1,nofun⟩,sb rfl⟩ ?_;clear g1 mm;rintro m s wk ⟨i,ov,rfl,hi,rfl,mm,P⟩;refine CS.cut (Qn:=λs w'=>i<W.length/\s=OV bs wa W wc ta L tc k [(9,Ptt bm),(10,ov),(11,.int .i64 i)]/\w'=wk) (Qx:=λj s w'=>j=0/\i=W.length/\s=OV bs wa W wc ta L tc k [(10,ov)]/\w'=wk) (Qr:=λ_ _=>False) (CS.e ?_) ?_ ?_ (λ_ _ _ h _=>h.elim)
  .refine ah (λc=>?_) (λc=>?_)
   .exact⟨_,by exact sb rfl,by have:=Ptq c;omega,rfl,rfl⟩
   .exact⟨_,by exact sb rfl,rfl,by have:=Ptx c;omega,rfl,rfl⟩
  rotate_left
  .rintro j _ s w' ⟨rfl,rfl,rfl,rfl⟩ hs
   exact⟨_,hs,ov,rfl,by rw[<-h4];exact P⟩
  rintro _ wk ⟨c1,rfl,rfl⟩;obtain⟨⟨q,r⟩,hw⟩:∃x,W[i]?=some x:=⟨W[i],by simp[c1]⟩;obtain⟨hq,hel,b,ha,hes⟩:=h5 i q r hw;obtain⟨wb,ajW,ad2,ew,hwb,wel⟩:=uV hW c1 (afa hw);cases ew
  refine CS.piece (Q:=λs w'=>∃Ib,s=NB bs (.slice (Pty wb) W.length wc) (.slice ta L.length tc) k [(9,Ptt bm),(10,Ib),(11,.int .i64 i)]/\w'.heap[bm]?=some (.cells (ms (i+1)).cells.toArray 108)/\EW w w' Ib (es (i+1))) ?_ ?_;rotate_left
  .rintro _ w' ⟨Ib,rfl,m',P'⟩
   obtain⟨oa,oc,rfl⟩:=af P'.o;refine CS.e ?_;exact⟨by omega,_,_,⟨i+1,_,rfl,by omega,rfl,m',P'⟩,(sb rfl),by omega⟩
  refine CS.block ?_;obtain⟨oa,oc,rfl⟩:=af P.o;refine CS.piece (Q:=λs w'=>s=NB bs (.slice (Pty wb) W.length wc) (.slice ta L.length tc) k [(9,Ptt bm),(10,.slice oa (es i).length oc),(11,.int .i64 i),(12,.bool true),(13,.bool b)]/\w'.heap[bm]?=some (.cells (ms (i+1)).cells.toArray 108)/\GB (some bm) wk w') (CS.e ?_) ?_
  .refine⟨by omega,_,_,P.g.get hwb nofun,H9 (q,r),by show aG ad2.toList (0+(i:Int).toNat*14) 14=_;rw[Jbh,Jfa];exact wel,rfl,_,aaN ha hq mm,?_⟩
   rintro _ w2 ⟨rfl,m2,g2⟩;exact⟨_,by exact sb rfl,rfl,m2,g2⟩
  rintro _ w2 ⟨rfl,m2,g2⟩;have nob:(Value.slice oa (es i).length oc).ownBlock≠some bm:=λq=>by obtain⟨c',hc'⟩:=au P.o q;exact gJ mm hc' (by decide) rfl
  replace P:EW w w2 (.slice oa (es i).length oc) (es i):=⟨ax P.o λx hx=>by obtain⟨c,hc⟩:=au P.o hx;exact g2.block x (ae hc) λq=>nob (by rw[hx,q]),P.g.new g2 lm,P.n⟩;clear g2 mm;refine CS.piece (Q:=λs w'=>s=NB bs (.slice (Pty wb) W.length wc) (.slice ta L.length tc) k [(9,Ptt bm),(10,.slice oa (es i).length oc),(11,.int .i64 i),(13,.bool b)]/\w'=w2) (CS.e ⟨_,by exact sb rfl,rfl,rfl⟩) ?_;rintro _ w2 ⟨rfl,rfl⟩;refine CS.e ?_;cases b with
  |false =>
   refine⟨_,by exact sb rfl,_,rfl,m2,?_⟩;rw[hes];exact P
  |true =>
   refine⟨by omega,_,_,P.g.get hwb nofun,r.cells,by show aG ad2.toList (0+(i:Int).toNat*14+7) 7=_;rw[Jbh,Jfa];exact NA wel rfl (by decide),rfl,λw3 b3 m3 g3 l3=>?_⟩;have P3:=P.gb g3;refine⟨_,r.cells,P3.o,⟨_,_,m3,rfl,rfl,rfl⟩,by omega,λIb w4 Bi g4 n4=>?_⟩;obtain⟨ua,uc,rfl⟩:=af Bi;have e1:es (i+1)=es i++[r]:=hes;refine⟨_,by exact sb rfl,_,rfl,g4.get (g3.get m2 nofun) λq=>nob q.symm,⟨?_,GB.ownB P3.g g4 P3.n,λx hx=>(n4 x hx).elim (P3.n x) λq=>by have:=P3.g.size;omega⟩⟩;rw[e1,Jc6,Jda,Jfr,show(map ag.cells [r]).flatten=r.cells by simp];exact Bi
 clear h1 h2 h3 h4 h5 mm g1 lm hW;rintro _ w2 ⟨ov,rfl,P⟩;obtain⟨oa,oc,rfl⟩:=af P.o;refine CS.piece (Q:=λs w'=>s=[]/\GB none w w') ?_ ?_;rotate_left
 .rintro _ w' ⟨rfl,g'⟩
  refine CS.e ?_;exact⟨rfl,g'⟩
 refine CS.piece (Q:=λs w'=>s=OV bs wa W wc ta L tc k [(10,.slice oa e.length oc),(14,.int .i64 ((0:Nat):Int))]/\w'=w2) (CS.e ⟨_,by exact sb rfl,rfl,rfl⟩) ?_;rintro _ w2 ⟨rfl,rfl⟩;refine CS.block ?_;refine CS.loop (λm s wk=>∃i:Nat,m=L.length-i/\i<=L.length/\s=OT bs wa W wc ta L tc k oa e oc i []/\EW w wk (.slice oa e.length oc) e) ⟨_,_,⟨0,rfl,Jcm _,rfl,P⟩,sb rfl⟩ ?_;clear P;rintro m s wk ⟨i,rfl,hi,rfl,P⟩;refine CS.cut (Qn:=λs w'=>i<L.length/\s=OT bs wa W wc ta L tc k oa e oc i []/\w'=wk) (Qx:=λj s w'=>j=2/\s=[]/\w'=wk) (Qr:=λ_ _=>False) (CS.e ?_) ?_ ?_ (λ_ _ _ h _=>h.elim)
 .refine ah (λc=>?_) (λc=>?_)
  .exact⟨_,by exact sb rfl,by have:=Ptq c;omega,rfl,rfl⟩
  .exact⟨_,by exact trivial,rfl,rfl,rfl⟩
 rotate_left
 .rintro j _ s w' ⟨rfl,rfl,rfl⟩ hs
  exact⟨_,hs,rfl,P.g⟩
 rintro _ wk ⟨c1,rfl,rfl⟩;obtain⟨⟨x,pk⟩,hy⟩:∃y,L[i]?=some y:=⟨L[i],by simp[c1]⟩;have hTy:=hT _ (Jcv hy);dsimp only at hTy;obtain⟨tb,ajX,ad3,et,htb,Nu⟩:=uV hL c1 (afb hy);cases et
 refine CS.piece (Q:=λs w'=>s=OT bs wa W wc (some ⟨tb,0,none⟩) L tc k oa e oc i []/\GB none wk w') ?_ ?_;rotate_left
 .rintro _ w' ⟨rfl,g'⟩
  refine CS.e ?_;exact⟨by omega,_,_,⟨i+1,rfl,by omega,rfl,P.gb g'⟩,(sb rfl),by omega⟩
 refine CS.block ?_;refine CS.piece (Q:=λs w'=>∃b15,s=OT bs wa W wc (some ⟨tb,0,none⟩) L tc k oa e oc i [(15,Ptt b15)]/\Hl w' b15 x.cells 70/\GB none wk w') (CS.e ?_) ?_
 .refine⟨by omega,_,_,P.g.get htb nofun,x.cells,by show aG ad3.toList (0+(i:Int).toNat*8+0) 7=_;rw[Jbh,Jfa];exact NA Nu rfl (by decide),rfl,λw3 b3 m3 g3 l3=>⟨_,_,_,m3,rfl,rfl,λw4 m4 g4=>?_⟩⟩
  exact⟨_,by exact sb rfl,b3,rfl,m4,g3.new g4 l3⟩
 rintro _ w3 ⟨b15,rfl,m15,g3⟩;refine CS.cut (Qn:=λs w'=>(x.key=k/\x.k≠3/\x.k≠4)/\s=OT bs wa W wc (some ⟨tb,0,none⟩) L tc k oa e oc i [(15,Ptt b15)]/\w'=w3) (Qx:=λj s w'=>j=3/\s=OT bs wa W wc (some ⟨tb,0,none⟩) L tc k oa e oc i []/\w'=w3) (Qr:=λ_ _=>False) (CS.e ?_) ?_ ?_ (λ_ _ _ h _=>h.elim)
 .have out:∀{s:Sg},gz (OT bs wa W wc (some ⟨tb,0,none⟩) L tc k oa e oc i []) s->∃q,gz q s/\(3=3/\q=OT bs wa W wc (some ⟨tb,0,none⟩) L tc k oa e oc i []/\w3=w3):=λhs=>⟨_,hs,rfl,rfl,rfl⟩
  refine⟨_,_,m15,_,rfl,ah (λc=>?_) (λc=>?_)⟩
  .have n1:x.key=k:=by have:=b01 c;simpa using this
   refine⟨_,_,m15,_,rfl,ah (λc2=>?_) (λc2=>?_)⟩
   .have n2:x.k≠3:=by have:=b01 c2;simpa using this
    refine⟨_,_,m15,_,rfl,ah (λc3=>?_) (λc3=>?_)⟩
    .exact out (by exact sb rfl)
    .have n3:x.k≠4:=by simpa using c3
     exact⟨_,by exact sb rfl,⟨n1,n2,n3⟩,rfl,rfl⟩
   .exact out (by exact sb rfl)
  .exact out (by exact sb rfl)
 rotate_left
 .rintro j _ s w' ⟨rfl,rfl,rfl⟩ hs
  exact⟨_,hs,rfl,g3⟩
 rintro _ w3 ⟨⟨n1,n2,n3⟩,rfl,rfl⟩;obtain⟨xe,hfi⟩:=hTy n1 n2 n3;have P3:=P.gb g3;refine CS.piece (Q:=λs w'=>s=OT bs wa W wc (some ⟨tb,0,none⟩) L tc k oa e oc i [(15,Ptt b15),(16,.int .i64 (-1))]/\w'=w3) (CS.e ⟨_,by exact sb rfl,rfl,rfl⟩) ?_;rintro _ w3 ⟨rfl,rfl⟩;refine CS.piece (Q:=λs w'=>∃v:Nat,s=OT bs wa W wc (some ⟨tb,0,none⟩) L tc k oa e oc i [(16,.int .i64 v)]/\e[v]?=some x/\w'=w3) ?_ ?_
 .refine CS.piece (Q:=λs w'=>s=OT bs wa W wc (some ⟨tb,0,none⟩) L tc k oa e oc i [(15,Ptt b15),(16,.int .i64 (-1)),(17,.int .i64 ((0:Nat):Int))]/\w'=w3) (CS.e ⟨_,by exact sb rfl,rfl,rfl⟩) ?_
  rintro _ w3 ⟨rfl,rfl⟩;refine CS.block ?_;refine CS.loop (λm s w'=>∃(j:Nat) (v:Int),m=e.length-j/\j<=e.length/\s=OT bs wa W wc (some ⟨tb,0,none⟩) L tc k oa e oc i [(15,Ptt b15),(16,.int .i64 v),(17,.int .i64 j)]/\(((∀i,i<j->e[i]?≠some x)/\v = -1)\/∃u:Nat,v=u/\e[u]?=some x)/\w'=w3) ⟨_,_,⟨0,_,rfl,Jcm _,rfl,.inl ⟨λi hi=>by omega,rfl⟩,rfl⟩,sb rfl⟩ ?_;rintro m s w3 ⟨j,v,rfl,hj,rfl,hv,rfl⟩;refine CS.cut (Qn:=λs w'=>j<e.length/\s=OT bs wa W wc (some ⟨tb,0,none⟩) L tc k oa e oc i [(15,Ptt b15),(16,.int .i64 v),(17,.int .i64 j)]/\w'=w3) (Qx:=λn s w'=>n=4/\j=e.length/\s=OT bs wa W wc (some ⟨tb,0,none⟩) L tc k oa e oc i [(16,.int .i64 v)]/\w'=w3) (Qr:=λ_ _=>False) (CS.e ?_) ?_ ?_ (λ_ _ _ h _=>h.elim)
  .refine ah (λc=>?_) (λc=>?_)
   .exact⟨_,by exact sb rfl,by have:=Ptq c;omega,rfl,rfl⟩
   .exact⟨_,by exact sb rfl,rfl,by have:=Ptx c;omega,rfl,rfl⟩
  rotate_left
  .rintro n _ s w' ⟨rfl,rfl,rfl,rfl⟩ hs
   rcases hv with⟨no,rfl⟩|⟨u,rfl,hu⟩
   .obtain⟨u,hu⟩:=Jdf.1 xe
    exact(no u (Jcn.1 hu).1 hu).elim
   .exact⟨_,hs,u,rfl,hu,rfl⟩
  rintro _ w3 ⟨c2,rfl,rfl⟩;obtain⟨y,hy2⟩:∃y,e[j]?=some y:=⟨e[j],by simp[c2]⟩;obtain⟨eb,ahO,XV,ee,heb,eel⟩:=uV P3.o c2 (Zc hy2);cases ee
  refine CS.piece (Q:=λs w'=>∃v':Int,s=NB bs (.slice wa W.length wc) (.slice (Pty tb) L.length tc) k [(10,.slice (Pty eb) e.length oc),(14,.int .i64 i),(15,Ptt b15),(16,.int .i64 v'),(17,.int .i64 j)]/\(((∀i,i<j+1->e[i]?≠some x)/\v' = -1)\/∃u:Nat,v'=u/\e[u]?=some x)/\w'=w3) ?_ ?_;rotate_left
  .rintro _ w3 ⟨v',rfl,hv',rfl⟩
   refine CS.e ?_;exact⟨by omega,_,_,⟨j+1,v',rfl,by omega,rfl,hv',rfl⟩,(sb rfl),by omega⟩
  refine CS.block (CS.e ?_);refine⟨by kernel_rfl,by omega,_,_,heb,y.cells,by show aG XV.toList (0+(j:Int).toNat*7) 7=_;rw[Jbh,Jfa];exact eel,rfl,_,_,m15,x.cells,rfl,rfl,?_⟩;refine ah (λc=>?_) (λc=>?_)
  .have c:dQ y x=true:=c
   have ey:=J5 c;exact⟨_,by exact sb rfl,_,rfl,.inr ⟨j,rfl,by rw[<-ey];exact hy2⟩,rfl⟩
  .have c:dQ y x=false:=c
   refine⟨_,by exact sb rfl,v,rfl,hv.imp (λq=>⟨λi hi=>?_,q.2⟩) id,rfl⟩;by_cases z:i=j
   .subst z
    rw[hy2];intro z;cases z
    rw[Eu]at c;cases c
   .exact q.1 i (by omega)
 rintro _ w3 ⟨v,rfl,hv,rfl⟩;obtain⟨vz,hvz⟩:∃z:Int,z=v:=⟨_,rfl⟩;rw[<-hvz];refine CS.piece (Q:=λs w'=>s=OT bs wa W wc (some ⟨tb,0,none⟩) L tc k oa e oc i [(16,.int .i64 vz)]/\w'=w3) (CS.e ?_) ?_
 .refine ah (λc=>?_) (λc=>?_)
  .have:=Ptq c;omega
  .exact⟨_,by exact sb rfl,rfl,rfl⟩
 rintro _ w3 ⟨rfl,rfl⟩;subst hvz;have lv:=(Jcn.1 hv).1;refine CS.piece (Q:=λs w'=>s=OT bs wa W wc (some ⟨tb,0,none⟩) L tc k oa e oc i [(16,.int .i64 v),(18,.int .i64 ((0:Nat):Int))]/\w'=w3) (CS.e ⟨_,by exact sb rfl,rfl,rfl⟩) ?_;rintro _ w3 ⟨rfl,rfl⟩;refine CS.block ?_;refine CS.loop (λm s w'=>∃j:Nat,m=v-j/\j<=v/\s=OT bs wa W wc (some ⟨tb,0,none⟩) L tc k oa e oc i [(16,.int .i64 v),(18,.int .i64 j)]/\GB none w3 w') ⟨_,_,⟨0,rfl,Jcm _,rfl,GB.refl _ _⟩,sb rfl⟩ ?_;rintro m s w4 ⟨j,rfl,hj,rfl,g4⟩;refine CS.cut (Qn:=λs w'=>j<v/\s=OT bs wa W wc (some ⟨tb,0,none⟩) L tc k oa e oc i [(16,.int .i64 v),(18,.int .i64 j)]/\w'=w4) (Qx:=λn s w'=>n=6/\s=OT bs wa W wc (some ⟨tb,0,none⟩) L tc k oa e oc i []/\w'=w4) (Qr:=λ_ _=>False) (CS.e ?_) ?_ ?_ (λ_ _ _ h _=>h.elim)
 .refine ah (λc=>?_) (λc=>?_)
  .exact⟨_,by exact sb rfl,by have:=Ptq c;omega,rfl,rfl⟩
  .exact⟨_,by exact sb rfl,rfl,rfl,rfl⟩
 rotate_left
 .rintro n _ s w' ⟨rfl,rfl,rfl⟩ hs
  exact⟨_,hs,rfl,g3.trans g4⟩
 rintro _ w4 ⟨c2,rfl,rfl⟩;obtain⟨z,hz⟩:∃z,e[j]?=some z:=⟨e[j]'(by omega),by simp[show j<e.length by omega]⟩;have P4:=P3.gb g4;obtain⟨eb,ahO,XV,ee,heb,eel⟩:=uV P4.o (show j<e.length by omega) (Zc hz);cases ee
 refine CS.piece (Q:=λs w'=>s=NB bs (.slice wa W.length wc) (.slice (Pty tb) L.length tc) k [(10,.slice (Pty eb) e.length oc),(14,.int .i64 i),(16,.int .i64 v),(18,.int .i64 j)]/\GB none w3 w') ?_ ?_;rotate_left
 .rintro _ w' ⟨rfl,g'⟩
  refine CS.e ?_;exact⟨by omega,_,_,⟨j+1,rfl,by omega,rfl,g'⟩,(sb rfl),by omega⟩
 refine CS.block ?_;refine CS.piece (Q:=λs w'=>∃av:Int,s=NB bs (.slice wa W.length wc) (.slice (Pty tb) L.length tc) k [(10,.slice (Pty eb) e.length oc),(14,.int .i64 i),(16,.int .i64 v),(18,.int .i64 j),(19,.int .i64 av)]/\av<=pk/\GB none w3 w') (CS.e ?_) ?_
 .refine⟨by omega,_,_,heb,z.cells,by show aG XV.toList (0+(j:Int).toNat*7) 7=_;rw[Jbh,Jfa];exact eel,rfl,_,XM (h.ay P4.g) hl z,?_⟩
  rintro _ w5 ⟨rfl,g5⟩;refine⟨_,by exact sb rfl,_,rfl,?_,g4.trans g5⟩;have:=hfi v hv j c2 z hz;cases hf:S.asks.find? (sZ z)with
  |none=>show(-1:Int)<=_;omega
  |some a=>show(a.p:Int)<=pk;have:=this a hf;omega
 rintro _ w5 ⟨av,rfl,Dj,g5⟩;refine CS.e ?_;refine⟨by omega,_,_,(P3.g.trans g5).get htb nofun,.int .i64 pk,by show ad3.toList[0+(i:Int).toNat*8+7]?=_;rw[Jbh,Jfa];exact Vj Nu rfl (by decide),ah (λc=>?_) (λc=>?_)⟩
 .have:=Ptq c;omega
 .exact⟨_,by exact sb rfl,rfl,g5⟩
end
def NC(A:aI):Prop:=∀{g:Nat} {l:List MC} {c:MC},g<A.N->A.N<=4->(∀c∈l,A.gc c)->l.length<=60->A.gc c->c.kind=1->A.dec (A.enc {aL 2 with p:=(A.ap (bR A (A.bg g A.N) l) c).2})=some {aL 2 with p:=(A.ap (bR A (A.bg g A.N) l) c).2}/\0<=(A.ap (bR A (A.bg g A.N) l) c).2.c
def ad8(A:aI)(S:Sit)(lf:Nat->List MC)(y:ag×Nat):Prop:=∃(g:Nat) (ls:Nat->List MC),g<S.C.n/\jF A S.C.n ls/\Pre S.C.n ls lf/\TL A S.C.n (ls g) g y.1/\∀g' c,g'<S.C.n->c∈ls g'->c.kind=1->∃a∈S.asks,a.q=c.q/\a.p<y.2
theorem jF.gc{A:aI}{n:Nat}{ls:Nat->List MC}(h:jF A n ls):∀g,∀c∈ls g,A.gc c:=by
 induction h with
 |nil=>exact λ_ _ h=>(Jbw h).elim
 | @ext ls g c h hg hc ih =>
  intro g' c' hm;unfold fA at hm;split at hm
  .rename_i e
   subst e;rcases Jdc.1 hm with q|q
   .exact ih _ _ q
   .rw[Jg6.1 q];exact hc.1
  .exact ih _ _ hm
section
variable{A:aI}{S:Sit}
theorem bV.sent(HT:NC A)(h:bV A S)(hN:S.C.n=A.N)(hk:S.Ev):∃L,nE A S.C.q=(L,true)/\L.length<=S.C.q.length/\∀y∈L,ad8 A S (λg=>S.bz.getD g []) y:=by
 have h4:=h.fine.cl.n;obtain⟨Γ,H,ci,dl,hh⟩:=h.gh;suffices hs:∀k,∃L,uF A S.C.q k=(L,true)/\L.length<=k/\∀y∈L,ad8 A S (λg=>S.bz.getD g []) y from hs _
 intro k;induction k with
 |zero=>exact⟨[],rfl,Jb0 _,λ_ h=>(Jbw h).elim⟩
 |succ k ih =>
  obtain⟨L,e,le,f⟩:=ih;show ∃L,(match uF A S.C.q k with|(acc,true)=>iQ A S.C.q k acc|(acc,false)=>(acc,false))=(L,true)/\_;rw[e];show ∃L',iQ A S.C.q k L=(L',true)/\_;unfold iQ;split
  .exact⟨L,rfl,Nat.le_succ_of_le le,f⟩
  .rename_i p hp
   split
   .exact⟨L,rfl,Nat.le_succ_of_le le,f⟩
   .rename_i tg
    obtain⟨g,x,ls,h1,h2,h3,h5,h6,h7,h8⟩:=ci.Nu k p hp (Jg8 tg);have gl:=(h6 g h1).1.len (ci.ok g h1);have rd:A.dec p.d=some {aL 2 with p:=x}/\0<=x.c:=by
     rw[h2];rcases h7 with⟨j,c,hj,k1,e⟩|⟨j,q,hj,gq,e,_⟩
     .rw[e,hN]
      exact HT (hN▸h1) (hN▸h4) (λc hc=>h5.gc g c (Jfy hc)) (by rw[Jd6];omega) (h5.gc g c (Jcv hj)) k1
     .rw[e,hN]
      exact HT (hN▸h1) (hN▸h4) (λc hc=>h5.gc g c (Jfy hc)) (by rw[Jd6];omega) gq rfl
    rw[rd.1];dsimp only;rw[Jb6 ⟨rfl,by show x.c=p.tr;rw[h3];have:=rd.2;omega⟩];refine⟨_,rfl,by rw[Jc6];exact Nat.succ_le_succ le,λy hy=>?_⟩;rcases Jdc.1 hy with q|q
    .exact f y q
    .rw[Jg6.1 q]
     refine⟨g,ls,h1,h5,λg' hg'=>?_,h7,h8⟩;have le:(ls g').length<=(S.bz.getD g' []).length:=Jb1 (h6 g' hg').2 (by
      rcases hh g' hg' with q|⟨i,q1,q2⟩
      .exact q
      .exact Jb1 q2 (hk g' i hg' q1))
     have:=DL.pre (ci.ok g' hg') (h6 g' hg').1 (dl g' hg').1 le;exact⟨(S.bz.getD g' []).drop (ls g').length,by
      have e:=Jgk (ls g').length (S.bz.getD g' []);rw[<-this]at e;exact e.symm⟩
end
theorem Sit.Vp(A:aI):∀(k:Nat) (S:Sit),(S.all A k).C.n=S.C.n
 |0,_=>rfl
 |k+1,S=>by
  unfold Sit.all;split
  .exact(Sit.Vp A k (S.one A)).trans (aJ.jv A S.C S.next).1
  .rfl
theorem Sit.P8(S:Sit):∀i,(S.dZ i).1.C=S.C
 |0=>rfl
 |i+1=>by
  have ih:=Sit.P8 S i;unfold Sit.dZ;generalize S.dZ i=p at ih;obtain⟨T,b⟩:=p;cases b
  .exact ih
  .show(T.dz i).1.C=S.C
   rw[<-show T.C=S.C from ih];unfold Sit.dz;split
   .rfl
   .split<;>exact(T.DN i).1
theorem Sit.RS(A:aI)(S:Sit)(t:Stp):(S.do A t).1.C.n=S.C.n:=by
 unfold Sit.do;generalize bE t.kind 7=k;unfold Sit.yh;split
 .show(if _ then _ else _:Sit).C.n=_
  split
  .exact(S.C.qz _ _ _).1
  .rfl
 .show(S.uU A t).C.n=_
  unfold Sit.uU;split
  .split<;>exact(S.C.qz _ _ _).1
  .exact(S.C.qz _ _ _).1
 .split
  .exact(aJ.jv _ _ _).1
  .rfl
 .split
  .exact(aJ.jv _ _ _).1
  .rfl
 .exact(aJ.oV _ _ _ _).1
 .exact(aJ.wC _ _ _ _).1.trans (congrArg aJ.n (Sit.P8 S _))
 .exact Sit.Vp A _ S
section
variable{A L:aI}(HA:bG A)(HN:dS A)(HL:uD A)(HP:uG A)(HA1:bG L)(Vq:dS L)(Vr:uD L)(HV:HY L)(hL:L.N=1){W:World}
include HA HN HL HP HA1 Vq Vr HV hL
theorem XW{g f:Int}(hg:yg g)(hf:yg f)(Vs:1+bE g 4=A.N){l:List Stp}{v:Value}(hl:FzZ W 11 v l.length (l.map Stp.cells).flatten)(hn:l.length<=9223372036854775807)(hwf:∀t∈l,t.wf A):lV Tryz.prog 7 #[.int .i64 g,.int .i64 f,v] W (λx w'=>∃bs S,x=.tuple #[Ptt bs,.bool true]/\dX (fQ W) bs S w'/\bV A S/\S.Ev/\S.C.n=A.N):=by
 obtain⟨va,vc,rfl,hvc,hvl,hvd⟩:=hl;refine Mt fG Tryz.func7 rfl rfl ?_;refine aM.piece (Q:=λq w'=>q=[(0,.int .i64 g),(1,.int .i64 f),(2,.slice va l.length vc)]/\w'=W) (aM.e ⟨_,by exact sb rfl,rfl,rfl⟩) ?_;rintro q W ⟨rfl,rfl⟩;refine aM.piece (Q:=λq w1=>∃bs,q=[(2,.slice va l.length vc),(8,Ptt bs),(9,.bool true)]/\dX (fQ W) bs (Sit.new A (1+bE g 4) (1+2*bE f 3)) w1) (aM.e ?_) ?_
 .refine⟨_,XB HA1 Vq Vr HV HA hL W g f hg hf,?_⟩
  rintro _ w1 ⟨bs,rfl,h1,k1⟩;exact⟨_,by exact sb rfl,bs,rfl,h1⟩
 rintro q w1 ⟨bs,rfl,h1⟩;have lf:=jE f (show 0<3 by decide);have lg:=jE g (show 0<4 by decide);obtain⟨F0,L0⟩:=bV.new HA HN (n:=1+bE g 4) (sz:=1+2*bE f 3) ⟨by omega,by omega⟩ Vs ⟨by omega,by omega⟩;have N0:(Sit.new A (1+bE g 4) (1+2*bE f 3)).C.n=A.N:=Vs;generalize Sit.new A (1+bE g 4) (1+2*bE f 3)=S0 at *;refine aM.piece (Q:=λq w4=>q=[(8,Ptt bs),(9,.bool true)]/\∃S,dX (fQ W) bs S w4/\bV A S/\S.Ev/\S.C.n=A.N) ?_ ?_;rotate_left
 .rintro q w4 ⟨rfl,S,h4,i4⟩
  refine aM.e ?_;exact⟨bs,S,rfl,h4,i4⟩
 refine aM.piece (Q:=λq w'=>q=[(2,.slice va l.length vc),(8,Ptt bs),(9,.bool true),(10,.int .i64 0)]/\w'=w1) (aM.e ⟨_,by exact sb rfl,rfl,rfl⟩) ?_;rintro q w1 ⟨rfl,rfl⟩;refine aM.block ?_;refine aM.loop (λm s wk=>∃(i:Nat) (S:Sit),m=l.length-i/\i<=l.length/\s=[(2,.slice va l.length vc),(8,Ptt bs),(9,.bool true),(10,.int .i64 i)]/\bV A S/\dX (fQ W) bs S wk/\(i=l.length->S.Ev)/\S.C.n=A.N) ⟨_,_,⟨0,S0,rfl,Jcm _,rfl,F0,h1,λ_=>L0,N0⟩,sb rfl⟩ ?_;clear h1 F0 L0 N0;rintro m s wk ⟨i,S,rfl,hi,rfl,hS,hK,hLk,hCn⟩;refine aM.cut (Qn:=λq w'=>i<l.length/\q=[(2,.slice va l.length vc),(8,Ptt bs),(10,.int .i64 i)]/\w'=wk) (Qx:=λj q w'=>j=0/\i=l.length/\q=[(8,Ptt bs),(9,.bool true)]/\w'=wk) (Qr:=λ_ _=>False) (aM.e ?_) ?_ ?_ (λ_ _ _ h _=>h.elim)
 .refine ah (λc=>?_) (λc=>?_)
  .exact⟨_,by exact sb rfl,by simp at c;omega,rfl,rfl⟩
  .exact⟨_,by exact sb rfl,rfl,by simp at c;omega,rfl,rfl⟩
 rotate_left
 .rintro j q s w' ⟨rfl,e,rfl,rfl⟩ hs
  exact⟨_,hs,rfl,S,hK,hS,hLk e,hCn⟩
 rintro q wk ⟨c1,rfl,rfl⟩;rcases hvd with h0|⟨Bv,ND,csv,tyv,zv',rfl,hBv,hcv⟩
 .omega
 obtain⟨t,ht⟩:∃t,l[i]?=some t:=⟨l[i],by simp[c1]⟩;have twf:=hwf t (Jcv ht);have hel:aG csv.toList (ND+i*11) 11=t.cells:=(Fz.elem hcv c1).trans (aaB ht);refine aM.piece (Q:=λq w'=>q=[(2,.slice (some ⟨Bv,ND,none⟩) l.length vc),(8,Ptt bs),(9,.bool true),(10,.int .i64 i)]/\∃S,bV A S/\dX (fQ W) bs S w'/\(i+1=l.length->S.Ev)/\S.C.n=A.N) ?_ ?_;rotate_left
 .rintro q w' ⟨rfl,S',f1,h',f2,f3⟩
  refine aM.e ?_;exact⟨by omega,_,_,⟨i+1,S',rfl,by omega,rfl,f1,h',f2,f3⟩,(sb rfl),by omega⟩
 refine aM.block ?_;refine aM.piece (Q:=λq w'=>q=[(2,.slice (some ⟨Bv,ND,none⟩) l.length vc),(8,Ptt bs),(9,.bool true),(10,.int .i64 i)]/\∃S,bV A S/\dX (fQ W) bs S w'/\S.C.n=A.N) (aM.of (ahz zv') mixed ?_) ?_
 .have hd:=ahw HA HN HL hK hS.fine twf
  obtain⟨d1,d2⟩:=bV.do HA HN HL HP hS twf;rw[d1]at hd;refine⟨by omega,_,_,hK.snap.get hBv nofun,t.cells,by show aG csv.toList (ND+(i:Int).toNat*11) 11=_;rw[Jfa];exact hel,rfl,_,hd,?_⟩;rintro _ w' ⟨rfl,h',k'⟩;exact⟨_,by exact sb rfl,rfl,_,d2,h',(Sit.RS A S t).trans hCn⟩
 rintro q w5 ⟨rfl,S1,i1,h5,n5⟩;obtain⟨b1,b2,b3,b4⟩:=i1.look;have hlk:=UU HN h5 i1.fine;rw[b1]at hlk;refine aM.piece (Q:=λq w'=>∃r,(r=false->i+1≠l.length)/\q=[(2,.slice (some ⟨Bv,ND,none⟩) l.length vc),(8,Ptt bs),(9,.bool true),(10,.int .i64 i),(44,.bool r)]/\w'=w5) (aM.e ?_) ?_
 .refine⟨by decide,?_⟩
  refine ah (λc=>?_) (λc=>?_)
  .exact⟨by omega,_,by exact sb rfl,_,λe=>(by have t:¬((i:Int)+1=l.length):=(by simpa using e);omega),rfl,rfl⟩
  .exact⟨_,by exact sb rfl,_,λe=>(by cases e),rfl,rfl⟩
 rintro q w5 ⟨r,hr,rfl,rfl⟩;refine aM.cond r rfl ?_;cases r
 .refine aM.e ?_
  exact⟨_,by exact sb rfl,rfl,S1,i1,h5,λe=>(hr rfl e).elim,n5⟩
 .refine aM.e ?_
  refine⟨_,hlk.x,?_⟩;rintro _ w6 ⟨rfl,h6,_⟩;exact⟨_,by exact sb rfl,rfl,_,b2,h6,λ_=>b4,(congrArg aJ.n b3).trans n5⟩
end
theorem Si{l:List Ask}{P:Ask->Bool}{a b:Ask}(hp:l.Pairwise λa b=>a.p<b.p)(hf:l.find? P=some a)(hb:b∈l)(hP:P b=true):a.p<=b.p:=by
 induction l with
 |nil=>cases hb
 |cons x l ih =>
  obtain⟨h1,h2⟩:=Jgq.1 hp;rw[find?_cons]at hf;cases hx:P x with
  |true =>
   rw[hx]at hf;cases hf
   rcases Jb3.1 hb with rfl|hb
   .exact Jb0 _
   .exact Jft (h1 b hb)
  |false =>
   rw[hx]at hf;rcases Jb3.1 hb with rfl|hb
   .rw[hx]at hP;cases hP
   .exact ih h2 hf hb
def Zd(A:aI)(lf:Nat->List MC)(k:Int):Prop:=∃W m e,j6 A A.N lf k 5000 0 0 []=W/\W.length<=4000/\Mm k W m e/\∀{ls:Nat->List MC} {g:Nat} {rep:ag},jF A A.N ls->Pre A.N ls lf->g<A.N->TL A A.N (ls g) g rep->rep.key=k->rep.k≠3->rep.k≠4->∃e0 e1,e=e0++e1/\rep∈e0/\∀x∈e0,∃g' c,g'<A.N/\c∈ls g'/\c.kind=1/\x.c=c.q.c/\x.s=c.q.s/\x.key=c.q.key
theorem Vt{A:aI}{S:Sit}{k:Int}{W:List (aW×ag)}{m:Mem}{e e0 e1:List ag}{ls:Nat->List MC}{y:ag×Nat}(hm:Mm k W m e)(hp:S.asks.Pairwise λa b=>a.p<b.p)(he:e=e0++e1)(hy:y.1∈e0)(h0:∀x∈e0,∃g' c,g'<A.N/\c∈ls g'/\c.kind=1/\x.c=c.q.c/\x.s=c.q.s/\x.key=c.q.key)(ha:∀g' c,g'<A.N->c∈ls g'->c.kind=1->∃a∈S.asks,a.q=c.q/\a.p<y.2):y.1∈e/\∀v:Nat,e[v]?=some y.1->∀j,j<v->∀z,e[j]?=some z->∀a,S.asks.find? (sZ z)=some a->a.p<=y.2:=by
 obtain⟨u,hu⟩:=Jdf.1 hy;have lu:=(Jcn.1 hu).1;have hu':e[u]?=some y.1:=by rw[he,Jc8 lu];exact hu
 refine⟨Jcv hu',λv hv j hj z hz a hf=>?_⟩;have pw:=hm.facts.2.2.2.1;have ev:v=u:=by
  rcases Nat.lt_trichotomy v u with q|q|q
  .exact(nJ pw q hv hu' rfl).elim
  .exact q
  .exact(nJ pw q hu' hv rfl).elim
 rw[he,Jc8 (by omega)]at hz;obtain⟨g',c,c1,c2,c3,c4,c5,c6⟩:=h0 z (Jcv hz);obtain⟨b,b1,b2,b3⟩:=ha g' c c1 c2 c3;have:=Si hp hf b1 (by unfold sZ;rw[b2,c4,c5,c6];simp);omega
section
variable{A L:aI}(HA:bG A)(HN:dS A)(HL:uD A)(HP:uG A)(HM:∀{k:Nat} (s:St),A.good k s->jK s.M=true/\Can s.M/\∀x,0<=own 0 s.M x/\own 0 s.M x<4)(HT:NC A)(HO:∀{lf:Nat->List MC},0<A.N->A.N<=4->jF A A.N lf->(∀g,g<A.N->(lf g).length<=60)->∀k:Int,0<=k->k<18446744073709551616->Zd A lf k)(HA1:bG L)(Vq:dS L)(Vr:uD L)(HV:HY L)(hL:L.N=1){W:World}
include HA HN HL HP HM HT HO HA1 Vq Vr HV hL
theorem aaP{g f:Int}(hg:yg g)(hf:yg f)(Vs:1+bE g 4=A.N){l:List Stp}{v:Value}(hl:FzZ W 11 v l.length (l.map Stp.cells).flatten)(hn:l.length<=9223372036854775807)(hwf:∀t∈l,t.wf A):aM Tryz.prog Tryz.f3.ntmps (Tryz.f3.body.getD .skip) (yB fG Tryz.f3.results.toList (λv w'=>v=.bool true/\GB none W w')) (uY [.int .i64 g,.int .i64 f,v] 0) W:=by
 refine aM.piece (Q:=λq w'=>q=[(0,.int .i64 g),(1,.int .i64 f),(2,v)]/\w'=W) (aM.e ⟨_,by exact sb rfl,rfl,rfl⟩) ?_;rintro q W ⟨rfl,rfl⟩;refine aM.piece (Q:=λq w1=>∃bs S,q=[(7,Ptt bs),(8,.bool true)]/\dX (fQ W) bs S w1/\bV A S/\S.Ev/\S.C.n=A.N) (aM.e ?_) ?_
 .have hp:=XW HA HN HL HP HA1 Vq Vr HV hL hg hf Vs hl hn hwf
  obtain⟨va,vc,rfl,_⟩:=hl;refine⟨_,hp,?_⟩;rintro _ w1 ⟨bs,S,rfl,h1,i1⟩;exact⟨_,by exact sb rfl,bs,S,rfl,h1,i1⟩
 clear Vs hl hn hwf hg hf;rintro q w1 ⟨bs,S,rfl,h1,hI,hLk,P9⟩;refine aM.piece (Q:=λq w'=>q=[(7,Ptt bs)]/\w'=w1) (aM.e ⟨_,by exact sb rfl,rfl,rfl⟩) ?_;rintro q w1 ⟨rfl,rfl⟩;have hF:=hI.fine;have hal:S.asks.length<=1000000:=by have:=hF.ak;have:=hF.cl.len;omega
 have oI:=hF.cl.n;have hn0:=hF.n;obtain⟨Ls,hse,hsl,afc⟩:=hI.sent HT P9 hLk;have hsl2:Ls.length<=20000:=by have:=hF.cl.len;omega
 have hpw:S.asks.Pairwise λa b=>a.p<b.p:=by obtain⟨Γ,H,ci,_⟩:=hI.gh;exact ci.ak.1
 obtain⟨ls,x1,x2⟩:=hI.yL hLk;obtain⟨fs,hfs⟩:∃fs,fs=(List.range S.C.n).map (S.fold A):=⟨_,rfl⟩;have fh:FH A S.C.n ls fs:=by
  refine⟨hn0,oI,by rw[hfs];simp,λg hg=>?_,λg hg=>by rw[x2 g hg];exact(hI.bz hg).1,λg i hg hi=>?_⟩
  .rw[hfs,Jdd,getElem?_range hg,x2 g hg];rfl
  .have hb:=hI.bz hg
   have:=wo HA (HA.Ag g S.C.n P9 hg oI) hb.1 hb.2 i (by rw[<-x2 g hg];exact hi);rw[<-x2 g hg]at this;exact HM _ this
 have afd:∀k:Int,0<=k->k<18446744073709551616->Zd A ls k:=HO (by omega) (by omega) (P9▸x1) λg hg=>by rw[x2 g (by omega)];exact(hI.bz (by omega)).1
 refine aM.piece (Q:=λq w'=>∃ta tc,q=[(7,Ptt bs),(9,.slice ta Ls.length tc),(10,.bool true)]/\w'.ownsRow 0 72 8 (.slice ta Ls.length tc) Ls.length (Ls.map yc).flatten/\GB none w1 w') (aM.e ?_) ?_
 .have ht:=PL HA h1 hF.cl
  rw[hse]at ht;refine⟨_,ht.x,?_⟩;rintro _ w2 ⟨⟨lv,rfl,o⟩,g2⟩;obtain⟨ta,tc,rfl⟩:=af o;exact⟨_,by exact sb rfl,ta,tc,rfl,o,g2⟩
 rintro _ w2 ⟨ta,tc,rfl,o2,g2⟩;replace h1:=h1.ay g2;clear g2 hsl hse;refine aM.piece (Q:=λq w'=>q=[(7,Ptt bs),(9,.slice ta Ls.length tc)]/\w'=w2) (aM.e ⟨_,by exact sb rfl,rfl,rfl⟩) ?_;rintro _ w2 ⟨rfl,rfl⟩;refine aM.piece (Q:=λq w'=>∃fb vc,q=[(7,Ptt bs),(9,.slice ta Ls.length tc),(11,.slice (Pty fb) fs.length vc)]/\pG w' (.slice (Pty fb) fs.length vc) fs/\GB none w2 w') (aM.e ?_) ?_
 .refine⟨_,(aaH HA h1 hF P9 λg hg=>hI.bz hg).x,?_⟩
  rintro fv w3 ⟨h3,g3⟩;rw[<-hfs]at h3;obtain⟨fb,vc,_,_,rfl,_⟩:=h3.el (fh.f 0 hn0);exact⟨_,by exact sb rfl,fb,vc,rfl,h3,g3⟩
 rintro _ w3 ⟨fb,vc,rfl,h3,g3⟩;replace h1:=h1.ay g3;replace o2:=ax o2 (w1:=w3) λx hx=>by obtain⟨c,hc⟩:=au o2 hx;exact g3.block x (ae hc) nofun
 clear g3 hfs;refine aM.piece (Q:=λq w'=>q=[]/\GB none W w') ?_ ?_;rotate_left
 .rintro q w' ⟨rfl,g'⟩
  refine aM.e ?_;exact⟨rfl,g'⟩
 refine aM.piece (Q:=λq w'=>q=[(7,Ptt bs),(9,.slice ta Ls.length tc),(11,.slice (Pty fb) fs.length vc),(12,.int .u64 ((0:Nat):Int))]/\w'=w3) (aM.e ⟨_,by exact sb rfl,rfl,rfl⟩) ?_;rintro _ w3 ⟨rfl,rfl⟩;refine aM.block ?_;refine aM.loop (λm s wk=>∃j:Nat,m=11-j/\j<=11/\s=[(7,Ptt bs),(9,.slice ta Ls.length tc),(11,.slice (Pty fb) fs.length vc),(12,.int .u64 j)]/\GB none w3 wk) ⟨_,_,⟨0,rfl,Jcm _,rfl,GB.refl _ _⟩,sb rfl⟩ ?_;rintro m s wk ⟨j,rfl,hj,rfl,gk⟩;refine aM.cut (Qn:=λq w'=>j<11/\q=[(7,Ptt bs),(9,.slice ta Ls.length tc),(11,.slice (Pty fb) fs.length vc),(12,.int .u64 j)]/\w'=wk) (Qx:=λj q w'=>j=0/\q=[]/\w'=wk) (Qr:=λ_ _=>False) (aM.e ?_) ?_ ?_ (λ_ _ _ h _=>h.elim)
 .refine ah (λc=>?_) (λc=>?_)
  .exact⟨_,by exact sb rfl,by have:=Ptq c;omega,rfl,rfl⟩
  .exact⟨_,by exact trivial,rfl,rfl,rfl⟩
 rotate_left
 .rintro j q s w' ⟨rfl,rfl,rfl⟩ hs
  exact⟨_,hs,rfl,(h1.ay gk).snap⟩
 rintro _ wk ⟨j1,rfl,rfl⟩;refine aM.piece (Q:=λq w'=>q=[(7,Ptt bs),(9,.slice ta Ls.length tc),(11,.slice (Pty fb) fs.length vc),(12,.int .u64 j)]/\GB none w3 w') ?_ ?_;rotate_left
 .rintro _ w' ⟨rfl,g'⟩
  refine aM.e ?_;exact⟨by omega,_,_,⟨j+1,rfl,by omega,rfl,g'⟩,(sb rfl),by omega⟩
 refine aM.block ?_;refine aM.piece (Q:=λq w'=>∃k:Int,(0<=k/\k<18446744073709551616)/\q=[(7,Ptt bs),(9,.slice ta Ls.length tc),(11,.slice (Pty fb) fs.length vc),(12,.int .u64 j),(13,.int .u64 k)]/\w'=wk) (aM.e ?_) ?_
 .refine⟨_,(CR wk j).x,?_⟩
  rintro _ w' ⟨rfl,rfl⟩;refine⟨_,by exact sb rfl,jQ j,?_,rfl,rfl⟩;unfold jQ;split
  .omega
  .have:=Int.tmod_nonneg 11 (show(0:Int)<=j by omega)
   have:=Int.tmod_lt_of_pos (j:Int) (show(0:Int)<11 by omega);omega
 rintro _ wk ⟨k,⟨k0,k1⟩,rfl,rfl⟩;obtain⟨Wy,my,e,w1',w2',mm,w4'⟩:=afd k k0 k1;refine aM.piece (Q:=λq w'=>q=[(7,Ptt bs),(8,.bool true),(9,.slice ta Ls.length tc),(11,.slice (Pty fb) fs.length vc),(12,.int .u64 j)]/\GB none w3 w') (aM.e ?_) ?_
 .have hfo:=Vo fh (h3.gb gk) k0
  rw[P9,w1']at hfo;refine⟨_,hfo.x,?_⟩;rintro r w4 P4;obtain⟨ra,rc,rfl⟩:=af P4.o;have G4:=gk.trans P4.g;refine⟨_,(Sd (h1.ay G4) hal mm w2' P4.o hsl2 (ax o2 λx hx=>by obtain⟨c,hc⟩:=au o2 hx;exact G4.block x (ae hc) nofun) λy hy hk n3 n4=>?_).x,?_⟩
  .obtain⟨g0,ls',s1,s2,s3,s4,s5⟩:=afc y hy
   rw[P9]at s1 s2 s3 s4 s5;obtain⟨e0,e1,q1,q2,q3⟩:=w4' s2 (λg' hg'=>by obtain⟨mm,em⟩:=s3 g' hg';exact⟨mm,by rw[x2 g' (by omega)];exact em⟩) s1 s4 hk n3 n4;exact Vt mm hpw q1 q2 q3 s5
  rintro _ w5 ⟨rfl,g5⟩;exact⟨_,by exact sb rfl,rfl,G4.trans g5⟩
 rintro _ w4 ⟨rfl,g4⟩;refine aM.e ?_;exact⟨_,by exact sb rfl,rfl,g4⟩
end
end
