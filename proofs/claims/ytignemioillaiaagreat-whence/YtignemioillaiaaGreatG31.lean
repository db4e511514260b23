/- A cluster is made: New. -/
import Derived.Test.YtignemioillaiaaGreatG30
namespace Go.Proofs.YtignemioillaiaaGreat
set_option maxHeartbeats 8000000
set_option maxRecDepth 100000
section
open Go Go.Conc
theorem Wk.snap{w w':World}{br:Nat}{R:MR}(h:Wk (fA w) br R w'):∃a,RI w' br R a/\(∀x,Own br a x->w.heap.size<=x)/\GB none w w':=by
 obtain⟨a,h⟩:=h;have kp:∀x,x<w.heap.size->w'.heap[x]? = w.heap[x]?/\¬Own br a x:=λx hx=>by
  obtain⟨o,ho⟩:∃o,w.heap[x]? = some o:=⟨w.heap[x],by simp[hx]⟩;obtain⟨h1,h2⟩:=h.pr x o ho;exact⟨h1.trans ho.symm,h2⟩
 refine⟨a,h.ri,λx hx=>?_,h.os,h.out,?_,λx hx _=>(kp x hx).1⟩
 ·by_cases hl:x<w.heap.size
  ·exact((kp x hl).2 hx).elim
  ·omega
 ·by_cases h0:w.heap.size=0
  ·omega
  ·have h1:=(kp (w.heap.size - 1) (by omega)).1
   obtain⟨o,ho⟩:∃o,w.heap[w.heap.size - 1]? = some o:=⟨w.heap[w.heap.size - 1]'(by omega),by simp[show w.heap.size - 1<w.heap.size by omega]⟩;rw[ho]at h1;have:=ae h1;omega
theorem jq{w:World}{e:TypeId}{size n:Nat}{v:Value}{xs:List Value}(h:w.ownsRow 0 e size v n xs)(_hn:0<n):∃g cap cur,v=.slice (some ⟨g,0,none⟩) n cap/\w.heap[g]? = some (.cells cur e)/\cur.toList.take (n*size)=xs/\n*size<=cur.size/\n<=cap:=by
 rcases h.2 with⟨_,h1⟩|⟨g,cap,cur,h1,h0,h2,h3,h4,h5,h6⟩
 ·omega
 ·refine⟨g,cap,cur,h1,h2,h6,?_,h3⟩
  have:=h.1;have h7:=congrArg List.length h6;rw[List.length_take,Array.length_toList]at h7;omega
def Made(sz g j g' i':Nat):Prop:=(g'<g/\i'<sz)\/(g'=g/\i'<j)
structure NV(A:aR)(w wk:World)(n sz g j:Nat)(B:Nat->Nat->Nat)(ad:Nat->Nat->fO):Prop where
 rep:∀g' i',Made sz g j g' i'->RI wk (B g' i') (DD A g' i' n sz) (ad g' i')
 new:∀g' i' x,Made sz g j g' i'->Own (B g' i') (ad g' i') x->w.heap.size<=x
 sep:∀g1 i1 g2 i2 x,Made sz g j g1 i1->Made sz g j g2 i2->Own (B g1 i1) (ad g1 i1) x->Own (B g2 i2) (ad g2 i2) x->g1=g2/\i1=i2
def ptrs(B:Nat->Nat->Nat)(g j:Nat):List Value:=(List.range j).map λi=>.pointer (some ⟨B g i,0,none⟩)
def Bf(wk:World)(sz g:Nat)(B:Nat->Nat->Nat)(gl:List Value):Prop:=gl.length=g/\∀g',g'<g->∃bs ct cur,gl[g']? = some (.slice (some ⟨bs,0,none⟩) sz ct)/\sz<=ct/\wk.heap[bs]? = some (.cells cur 133)/\∀i,i<sz->cur.toList[i]? = some (.pointer (some ⟨B g' i,0,none⟩))
section
variable{A:aR}{w wk wQ:World}{n sz g j:Nat}{B:Nat->Nat->Nat}{ad:Nat->Nat->fO}
theorem NV.keep(h:NV A w wk n sz g j B ad)(k:Kz wk wQ)(hb:∀g' i' x,Made sz g j g' i'->Own (B g' i') (ad g' i') x->wQ.heap[x]? = wk.heap[x]?):NV A w wQ n sz g j B ad:=⟨λg' i' hm=>(h.rep g' i' hm).keep k λx hx=>hb g' i' x hm hx,h.new,h.sep⟩
theorem NV.ax(h:NV A w wk n sz g j B ad)(k:GB none wk wQ):NV A w wQ n sz g j B ad:=h.keep k.kz λg' i' x hm hx=>k.block x ((h.rep g' i' hm).lt hx) nofun
theorem NV.Ho(h:NV A w wk n sz g j B ad){r:Option Nat}(k:GB r wk wQ){t:TypeId}(ht:t ∉ Mw)(hm:t≠152/\t≠54/\t≠139)(hr:∀x,r=some x->∃c,wk.heap[x]? = some (.cells c t)):NV A w wQ n sz g j B ad:=by
 refine h.keep (λt' ht' b c hb=>k.get hb λe=>?_) λg' i' x hM hx=>k.block x ((h.rep g' i' hM).lt hx) λe=>?_
 ·obtain⟨c',hc⟩:=hr b e.symm
  rw[hb]at hc;injection hc with hc;injection hc with _ hc;subst hc;exact ht ht'
 ·obtain⟨c',hc⟩:=hr x e.symm
  rcases(h.rep g' i' hM).A9 hx hc with q|q|q
  ·exact hm.1 q
  ·exact hm.2.1 q
  ·exact hm.2.2 q
theorem NV.more(h:NV A w wk n sz g j B ad)(hj:j<sz)(gw:GB none w wk){br:Nat}(hW:Wk (fA wk) br (DD A g j n sz) wQ):∃jF,NV A w wQ n sz g (j+1) (fw B g j br) jF/\GB none wk wQ:=by
 obtain⟨a,hR,hn,k⟩:=hW.snap;have h1:=h.ax k;have ne:∀{g' i'},Made sz g j g' i'->¬(g'=g/\i'=j):=λhm e=>by unfold Made at hm;omega
 have cs:∀{g' i'},Made sz g (j+1) g' i'->Made sz g j g' i'\/(g'=g/\i'=j):=λ{g' i'} hm=>by unfold Made at hm |-;omega
 refine⟨fw ad g j a,⟨λg' i' hm=>?_,λg' i' x hm hx=>?_,λg1 i1 g2 i2 x m1 m2 o1 o2=>?_⟩,k⟩
 ·rcases cs hm with q|⟨rfl,rfl⟩
  ·rw[bz _ _ (ne q),bz _ _ (ne q)];exact h1.rep g' i' q
  ·rw[bL,bL];exact hR
 ·rcases cs hm with q|⟨rfl,rfl⟩
  ·rw[bz _ _ (ne q),bz _ _ (ne q)]at hx;exact h.new g' i' x q hx
  ·rw[bL,bL]at hx;have:=hn x hx;have:=gw.size;omega
 ·rcases cs m1 with q1|⟨rfl,rfl⟩<;>rcases cs m2 with q2|⟨e2,e2'⟩
  ·rw[bz _ _ (ne q1),bz _ _ (ne q1)]at o1
   rw[bz _ _ (ne q2),bz _ _ (ne q2)]at o2;exact h.sep _ _ _ _ x q1 q2 o1 o2
  ·subst e2;subst e2'
   rw[bz _ _ (ne q1),bz _ _ (ne q1)]at o1;rw[bL,bL]at o2;have:=hn x o2;have:=(h.rep _ _ q1).lt o1;omega
  ·rw[bL,bL]at o1
   rw[bz _ _ (ne q2),bz _ _ (ne q2)]at o2;have:=hn x o1;have:=(h.rep _ _ q2).lt o2;omega
  ·exact⟨e2.symm,e2'.symm⟩
theorem NV.next(h:NV A w wk n sz g sz B ad):NV A w wk n sz (g+1) 0 B ad:=by
 have e:∀{g' i'},Made sz (g+1) 0 g' i'->Made sz g sz g' i':=λhm=>by unfold Made at hm |-;omega
 exact⟨λg' i' hm=>h.rep g' i' (e hm),λg' i' x hm=>h.new g' i' x (e hm),λg1 i1 g2 i2 x m1 m2=>h.sep g1 i1 g2 i2 x (e m1) (e m2)⟩
theorem Uw{br:Nat}:ptrs (fw B g j br) g (j+1)=ptrs B g j++[Ptt br]:=by
 unfold ptrs;rw[List.range_succ,List.map_append];congr 1
 ·refine List.map_congr_left λi hi=>?_
  have:=List.mem_range.1 hi;rw[bz _ _ (λe=>by omega)]
 ·simp[bL]
theorem Bf.upd{gl:List Value}{br:Nat}(h:Bf wk sz g B gl):Bf wk sz g (fw B g j br) gl:=⟨h.1,λg' hg'=>by
 obtain⟨bs,ct,cur,h1,h2,h3,h4⟩:=h.2 g' hg';exact⟨bs,ct,cur,h1,h2,h3,λi hi=>by rw[bz _ _ (λe=>by omega)];exact h4 i hi⟩⟩
theorem Bf.ax{gl:List Value}(h:Bf wk sz g B gl)(k:GB none wk wQ):Bf wQ sz g B gl:=⟨h.1,λg' hg'=>by
 obtain⟨bs,ct,cur,h1,h2,h3,h4⟩:=h.2 g' hg';exact⟨bs,ct,cur,h1,h2,k.get h3 nofun,h4⟩⟩
theorem Bf.Ho{gl:List Value}(h:Bf wk sz g B gl){r:Option Nat}(k:GB r wk wQ){t:TypeId}(ht:t≠133)(hr:∀x,r=some x->∃c,wk.heap[x]? = some (.cells c t)):Bf wQ sz g B gl:=⟨h.1,λg' hg'=>by
 obtain⟨bs,ct,cur,h1,h2,h3,h4⟩:=h.2 g' hg';exact⟨bs,ct,cur,h1,h2,k.get h3 λe=>by
  obtain⟨c,hc⟩:=hr bs e.symm;rw[h3]at hc;injection hc with hc;injection hc with _ hc;exact ht hc.symm,h4⟩⟩
end
section
variable{A:aR}(HA:bG A)
include HA
theorem abP(w:World)(n f:Nat)(hn:1<=n/\n<=4)(hf:f<=2):ag Tryz.prog 18 #[.int .i64 n,.int .i64 f] w (λv w'=>∃bc,v=.tuple #[Ptt bc,.int .i64 0]/\w.heap.size<=bc/\uw (fA w) bc (aM.new A n (2*f+1)) w'/\Kz w w'):=by
 have q1:decide ((n:Int)<1)=false:=by simp;omega
 have q2:decide ((n:Int) > 4)=false:=by simp;omega
 have q4:decide ((f:Int) > 2)=false:=by simp;omega
 refine aj ah mixed Tryz.func18 rfl rfl ?_;refine au (λc=>?_) (λc=>(by rw[q1]at c;cases c));refine au (λc=>?_) (λc=>(by rw[q2]at c;cases c));refine au (λc=>(by rw[q4]at c;cases c)) (λc=>?_);refine λw1 bc m1 g1 l1=>?_
 refine⟨λm s wk=>∃(g:Nat) (gv:Value) (gl:List Value) (B:Nat->Nat->Nat) (ad:Nat->Nat->fO),m=n - g/\g<=n/\s=[(0,.int .i64 n),(1,.int .i64 f),(6,Ptt bc),(27,.int .i64 n),(28,.int .i64 g)]/\wk.heap[bc]? = some (.cells #[gv,.slice none 0 0] 131)/\wk.ownsRow 0 132 1 gv g gl/\(∀x,gv.ownBlock=some x->w.heap.size<=x)/\Bf wk (2*f+1) g B gl/\NV A w wk n (2*f+1) g 0 B ad/\GB none w wk,⟨_,_,⟨0,.slice none 0 0,[],λ_ _=>0,λ_ _=>⟨0,0,0,0,0,0,.slice none 0 0,.slice none 0 0,.slice none 0 0,.slice none 0 0,.slice none 0 0,.slice none 0 0,.slice none 0 0⟩,rfl,Nat.zero_le _,rfl,m1,dY _ _ _,nofun,⟨rfl,λg' hg'=>(by omega)⟩,⟨λg' i' hm=>(by unfold Made at hm;omega),λg' i' x hm=>(by unfold Made at hm;omega),λg' i' _ _ x hm=>(by unfold Made at hm;omega)⟩,g1⟩,rfl,rfl,rfl,rfl,rfl,trivial⟩,?_⟩;rintro m s wg ⟨g,gv,gl,B,ad,rfl,hg,rfl,hc,hgo,hgn,wR,Hu,hgb⟩;refine au (λc=>?_) (λc=>?_)
 ·have c1:g<n:=by simp at c;omega
  refine⟨by omega,by omega,?_⟩;refine⟨λm s wk=>∃(j:Nat) (av:Value) (B:Nat->Nat->Nat) (ad:Nat->Nat->fO),m=2*f+1 - j/\j<=2*f+1/\s=[(0,.int .i64 n),(1,.int .i64 f),(6,Ptt bc),(7,.int .i64 g),(8,av),(27,.int .i64 n),(28,.int .i64 g),(33,.int .i64 (2*(f:Int)+1)),(34,.int .i64 j)]/\wk.ownsRow 0 133 1 av j (ptrs B g j)/\(∀x,av.ownBlock=some x->wg.heap.size<=x)/\Bf wk (2*f+1) g B gl/\NV A w wk n (2*f+1) g j B ad/\GB none wg wk,⟨_,_,⟨0,.slice none 0 0,B,ad,rfl,Nat.zero_le _,rfl,dY _ _ _,nofun,wR,Hu,GB.refl _ _⟩,rfl,rfl,rfl,rfl,rfl,rfl,rfl,rfl,rfl,trivial⟩,?_⟩;have aeB:=wR;clear Hu wR;rintro m s wk ⟨j,av,B,ad,rfl,hj,rfl,hao,Z6,wR,Hu,mh⟩;refine au (λc=>?_) (λc=>?_)
  ·have c2:j<2*f+1:=by simp at c;omega
   refine .inl ⟨by omega,.inl ⟨by omega,λw2 b2 m2 g2 l2=>⟨_,_,_,m2,rfl,rfl,λw3 m3 g3=>?_⟩⟩⟩;have g13:GB none wk w3:=g2.new g3 l2;refine⟨_,_,m3,[.int .u8 g,.int .u8 j],rfl,rfl,by omega,by omega,_,ZT HA g j n (2*f+1) c1 hn.2,?_⟩;rintro _ w4 ⟨br,rfl,hb,hW,k4⟩;have Ux:=Hu.ax g13;obtain⟨jF,Uy,tK⟩:=Ux.more c2 ((hgb.trans mh).trans g13) hW;have gk4:GB none wk w4:=g13.trans tK;refine λw5 b5 m5 g5 l5=>?_
   have VV:GB none wk w5:=gk4.trans g5;obtain⟨aa,ac,rfl⟩:=af hao;have Z7:=az hao (w1:=w5) λx hx=>by obtain⟨cur,hc⟩:=ay hao hx;exact VV.block x (ae hc) nofun
   refine⟨_,[Ptt br],Z7,⟨_,_,m5,rfl,rfl,rfl⟩,by omega,λv' w6 M3 g6 n6=>?_⟩;refine⟨by omega,_,_,⟨j+1,v',fw B g j br,jF,rfl,by omega,rfl,by rw[Uw];exact M3,λx hx=>(n6 x hx).elim (Z6 x) λhl=>?_,?_,?_,GB.ownB (mh.trans VV) g6 Z6⟩,⟨rfl,rfl,rfl,rfl,rfl,rfl,rfl,rfl,rfl,trivial⟩,by omega⟩
   ·have:=(mh.trans VV).size;omega
   ·refine⟨wR.1,λg' hg'=>?_⟩
    obtain⟨bs,ct,cur,h1,h2,h3,h4⟩:=(wR.ax VV).upd.2 g' hg';refine⟨bs,ct,cur,h1,h2,g6.get h3 λe=>?_,h4⟩;have e1:=Z6 bs e.symm;obtain⟨bs',VW,cur',p1,p2,p3,p4⟩:=aeB.2 g' hg';rw[h1]at p1;injection p1 with p1;injection p1 with p1;injection p1 with p1;injection p1 with p1;have:=ae p3;omega
   ·exact(Uy.ax g5).Ho g6 (t:=133) (by decide) ⟨by decide,by decide,by decide⟩ λx hx=>ay Z7 hx
  ·have c2:j=2*f+1:=by simp at c;omega
   subst c2;obtain⟨ga,gc,rfl⟩:=af hgo;have hck:=mh.get hc nofun;have hgo':=az hgo (w1:=wk) λx hx=>by obtain⟨cur,hc⟩:=ay hgo hx;exact mh.block x (ae hc) nofun
   obtain⟨bs,cap,cur,rfl,aS,htk,hsz,hcap⟩:=jq hao (by omega);refine⟨_,_,hck,_,rfl,λw2 b2 m2 g2 l2=>?_⟩;have Ke:=az hgo' (w1:=w2) λx hx=>by obtain⟨cur,hc⟩:=ay hgo' hx;exact g2.block x (ae hc) nofun
   refine⟨_,[.slice (some ⟨bs,0,none⟩) (2*f+1) cap],Ke,⟨_,_,m2,rfl,rfl,rfl⟩,by omega,λQ7 w3 ho3 g3 n3=>?_⟩;have hc3:w3.heap[bc]? = _:=g3.get (g2.get hck nofun) λe=>by
    obtain⟨c,hc'⟩:=ay Ke e.symm;rw[g2.get hck nofun]at hc';injection hc' with hc';injection hc' with _ hc';revert hc';decide
   obtain⟨na,nc,rfl⟩:=af ho3;refine⟨_,_,_,hc3,rfl,rfl,λw4 m4 g4=>?_⟩;have Z8:w.heap.size<=bc:=l1;have G2:GB none w w2:=(hgb.trans mh).trans g2;have G3:GB none w w3:=GB.ownB G2 g3 hgn;have G4:GB none w w4:=G3.new g4 Z8;have aeC:=wR.ax g2;have aeD:=aeC.Ho g3 (t:=132) (by decide) λx hx=>ay Ke hx
   have aeE:=aeD.Ho g4 (t:=131) (by decide) λx hx=>⟨_,by cases hx;exact hc3⟩
   have Ux:=(Hu.ax g2).Ho g3 (t:=132) (by decide) ⟨by decide,by decide,by decide⟩ λx hx=>ay Ke hx
   have Uy:=Ux.Ho g4 (t:=131) (by decide) ⟨by decide,by decide,by decide⟩ λx hx=>⟨_,by cases hx;exact hc3⟩
   have aeF:w4.heap[bs]? = some (.cells cur 133):=g4.get (g3.get (g2.get aS nofun) λe=>by
    obtain⟨c,hc'⟩:=ay Ke e.symm;rw[g2.get aS nofun]at hc';injection hc' with hc';injection hc' with _ hc';revert hc';decide) λe=>by
    cases e
    rw[aS]at hck;injection hck with hck;injection hck with _ hck;revert hck;decide
   refine⟨by omega,_,_,⟨g+1,_,gl++[.slice (some ⟨bs,0,none⟩) (2*f+1) cap],B,ad,rfl,by omega,rfl,m4,az ho3 λx hx=>?_,λx hx=>(n3 x hx).elim (hgn x) λhl=>?_,⟨?_,λg' hg'=>?_⟩,Uy.next,G4⟩,⟨rfl,rfl,rfl,rfl,rfl,trivial⟩,by omega⟩
   ·obtain⟨c,hc'⟩:=ay ho3 hx
    refine g4.block x (ae hc') λe=>?_
    cases e
    rw[hc3]at hc';injection hc' with hc';injection hc' with _ hc';revert hc';decide
   ·have:=G2.size;omega
   ·rw[List.length_append,wR.1];rfl
   ·by_cases e:g'<g
    ·obtain⟨bs',VW,cur',p1,p2,p3,p4⟩:=aeE.2 g' e
     exact⟨bs',VW,cur',by rw[List.getElem?_append_left (by rw[wR.1];exact e)];exact p1,p2,p3,p4⟩
    ·have e:g'=g:=by omega
     subst e;refine⟨bs,cap,cur,by rw[List.getElem?_append_right (by rw[wR.1];exact Nat.le_refl _),wR.1,Nat.sub_self];rfl,?_,aeF,λi hi=>?_⟩
     ·exact hcap
     ·have:=congrArg (λl=>l[i]?) htk
      simp only[Nat.mul_one]at this;rw[List.getElem?_take,if_pos hi]at this;rw[this];simp[ptrs,hi]
 ·have c1:g=n:=by simp at c;omega
  subst c1;obtain⟨bg,cap,cur,rfl,aS,htk,hsz,hcap⟩:=jq hgo (by omega);refine⟨bc,rfl,l1,⟨_,_,B,ad,⟨⟨hc,dY _ _ _,Nat.zero_le _,⟨bg,cap,cur,_,rfl,hcap,aS,by decide,λg' hg'=>?_⟩,λg' i' hg' hi'=>Hu.rep g' i' (.inl ⟨hg',hi'⟩),λg1 i1 g2 i2 x p1 p2 p3 p4=>Hu.sep g1 i1 g2 i2 x (.inl ⟨p1,p2⟩) (.inl ⟨p3,p4⟩),nofun⟩,λb o hb=>⟨hgb.get hb nofun,λhC=>?_⟩,hgb.os,hgb.out⟩⟩,hgb.kz⟩
  ·obtain⟨bs',VW,cur',p1,p2,p3,p4⟩:=wR.2 g' hg'
   refine⟨bs',VW,cur',_,?_,p2,p3,by decide,p4⟩;have hg'':g'<g:=hg';refine Eq.trans ?_ p1;rw[<-htk,List.getElem?_take,if_pos (by omega)]
  ·have hl:=ae hb
   rcases hC with e|e|⟨g',i',p1,p2,p3⟩
   ·have Z8:w.heap.size<=bc:=l1
    omega
   ·cases e
   ·have:=Hu.new g' i' b (.inl ⟨p1,p2⟩) p3;omega
end
theorem kP{α:Type}{f:α->List Value}{size:Nat}(hf:∀x,(f x).length=size){l:List α}{k:Nat}{x:α}(hx:l[k]? = some x){cs:Array Value}{off:Nat}(hcut:aJ cs.toList off (l.length*size)=(l.map f).flatten):aJ cs.toList (off+(k:Int).toNat*size) size=f x:=by
 rw[Int.toNat_natCast];have h1:=jB hf l k x hx;have h2:(k+1)*size<=l.length*size:=Nat.mul_le_mul_right _ (List.getElem?_eq_some_iff.1 hx).1;rw[Nat.succ_mul]at h2;rw[List.flatMap_def,<-hcut,uN _ _ _ _ _ h2]at h1;exact h1
theorem b11{x:Bool}(e:(x == true)=true):x=true:=by cases x<;>first|rfl|cases e
theorem b10{x:Bool}(e:(x == true)=false):x=false:=by cases x<;>first|rfl|cases e
theorem b01{x:Bool}(e:(x == false)=true):x=false:=by cases x<;>first|rfl|cases e
theorem b00{x:Bool}(e:(x == false)=false):x=true:=by cases x<;>first|rfl|cases e
def zN(w:World)(v:Value)(m:List Pc):Prop:=Fz w 107 2 v m.length (m.map Pc.cells).flatten
structure LN(e size:Nat)(w0 w:World)(v:Value)(n:Nat)(xs:List Value):Prop where
 own:w.ownsRow 0 e size v n xs
 gb:GB none w0 w
 new:∀g,v.ownBlock=some g->w0.heap.size<=g
section
variable{e size:Nat}{w0 w w':World}{v v':Value}{n:Nat}{xs:List Value}
theorem LN.nil(g:GB none w0 w):LN e size w0 w (.slice none 0 0) 0 []:=⟨dY _ _ _,g,nofun⟩
theorem LN.ax(h:LN e size w0 w v n xs)(g:GB none w w'):LN e size w0 w' v n xs:=⟨az h.own λx hx=>by obtain⟨c,hc⟩:=ay h.own hx;exact g.block x (ae hc) nofun,h.gb.trans g,h.new⟩
theorem LN.app(h:LN e size w0 w v n xs){m:Nat}{ys:List Value}(ho:w'.ownsRow 0 e size v' m ys)(g:GB v.ownBlock w w')(k:∀g,v'.ownBlock=some g->v.ownBlock=some g\/w.heap.size<=g):LN e size w0 w' v' m ys:=⟨ho,h.gb.ownB g h.new,λx hx=>(k x hx).elim (h.new x) λe=>Nat.le_trans h.gb.size e⟩
theorem LN.fz(h:LN e size w0 w v n xs):Fz w e size v n xs:=mg h.own
end
abbrev PN(w0 w:World)(v:Value)(L:List Pc):Prop:=LN 107 2 w0 w v L.length (L.map Pc.cells).flatten
theorem Uz{w:World}{v:Value}{L:List Pc}{y:Pc}(h:w.ownsRow 0 107 2 v L.length (L.map Pc.cells).flatten)(hy:L.getLast? = some y):∃g cap cur,v=.slice (some ⟨g,0,none⟩) L.length cap/\w.heap[g]? = some (.cells cur 107)/\aJ cur.toList ((L.length - 1)*2) 2=y.cells:=by
 have hne:L≠[]:=λe=>by rw[e]at hy;cases hy
 have hpos:0<L.length:=List.length_pos_iff.2 hne;obtain⟨gb,cap,cur,ev,aS,htk,hsz,hcap⟩:=jq h (by omega);refine⟨gb,cap,cur,ev,aS,?_⟩;have hx:L[L.length - 1]? = some y:=by rw[<-hy,List.getLast?_eq_getElem?]
 have h1:=jB (f:=Pc.cells) (size:=2) (λ_=>rfl) L _ y hx;rw[List.flatMap_def,<-htk]at h1;rw[<-h1];unfold aJ;rw[List.drop_take,List.take_take,Nat.min_eq_left (by omega)]
section
variable{w0 w:World}{v:Value}{L:List Pc}
theorem DJ(h:PN w0 w v L)(p:Pc)(hl:L.length<=100000):ag Tryz.prog 147 #[v,.agg p.cells.toArray] w (λv' w'=>PN w0 w' v' (join L p)):=by
 obtain⟨va,vc,rfl⟩:=af h.own;refine aj ah mixed Tryz.func147 rfl rfl ?_;refine λw1 b1 m1 g1 l1=>?_
 have h1:=h.ax g1;have app:∀(w2:World) (b2:Nat),w2.heap[b2]? = some (.cells p.cells.toArray 107)->GB none w1 w2->∃xs news,w2.ownsRow 0 107 2 (.slice va L.length vc) L.length xs/\JD w2 2 1 news (some ⟨b2,0,none⟩)/\L.length+1<=1000000000/\∀v' w',w'.ownsRow 0 107 2 v' (L.length+1) (xs++news)->GB (Value.slice va L.length vc).ownBlock w2 w'->Mo va L.length vc 1 w2 v'->PN w0 w' v' (L++[p]):=λw2 b2 m2 g2=>by
  refine⟨_,p.cells,(h1.ax g2).own,⟨_,_,m2,rfl,rfl,rfl⟩,by omega,λv' w' ho g n=>?_⟩;have:=(h1.ax g2).app ho g n;show LN _ _ _ _ _ _ _;rw[List.length_append,List.map_append,List.flatten_append];simpa using this
 cases hy:L.getLast? with
 |none =>
  have hL:L=[]:=List.getLast?_eq_none_iff.1 hy;subst hL;refine⟨by kernel_rfl,?_⟩;refine⟨_,_,m1,p.cells,rfl,rfl,λw2 b2 m2 g2 l2=>?_⟩;exact app w2 b2 m2 g2
 |some y =>
  obtain⟨g,cap,cur,ev,aS,hcut⟩:=Uz h1.own hy;injection ev with ea _ ec;subst ea ec;have hpos:0<L.length:=List.length_pos_iff.2 λe=>by rw[e]at hy;cases hy
  refine⟨by kernel_rfl,au (λe=>?_) (λe=>?_)⟩
  ·refine⟨⟨by omega,by omega⟩,⟨by omega,by omega⟩,_,_,aS,.int .u8 y.g,?_,_,_,m1,_,rfl,au (λq=>?_) (λq=>?_)⟩
   ·show cur.toList[0+((L.length:Int) - 1).toNat*2+1]? = _
    rw[Nat.zero_add,show((L.length:Int) - 1).toNat=L.length - 1 by omega];exact iF hcut rfl (by decide)
   ·have q1:y.g=p.g:=by simpa using q
    have hj:join L p=L:=by unfold join;rw[hy];exact if_pos q1
    show PN _ _ _ _;rw[hj];exact h1
   ·have q1:¬y.g=p.g:=by simpa using q
    have hj:join L p=L++[p]:=by unfold join;rw[hy];exact if_neg q1
    rw[hj];refine⟨_,_,m1,p.cells,rfl,rfl,λw2 b2 m2 g2 l2=>?_⟩;exact app w2 b2 m2 g2
  ·have:=of_decide_eq_false (b10 e)
   omega
end
theorem Bg{m:List Pc}(h:lL m=true):m.length<=1000:=by
 unfold lL at h;simp only[Bool.and_eq_true,decide_eq_true_eq]at h;exact h.1.1.2
section
variable{w:World}{v:Value}{m:List Pc}
theorem Hw(hv:zN w v m){p0:Pc}(h0:m[0]? = some p0)(Kg:m.length<=1000000)(key:Int):ag Tryz.prog 130 #[v,.int .u64 key] w (λx w'=>x=.int .u8 (own p0.g m key)/\GB none w w'):=by
 obtain⟨a,c,rfl,hc,hl,hv⟩:=hv;have hlen:=(List.getElem?_eq_some_iff.1 h0).1;rcases hv with⟨_,hz⟩|⟨b,off,cs,rfl,hb,hcut⟩
 ·omega
 refine aj ah mixed Tryz.func130 rfl rfl ?_;refine⟨⟨by omega,by omega⟩,_,_,hb,.int .u8 p0.g,iF (o:=off+0*2) (kP (f:=Pc.cells) (k:=0) (λ_=>rfl) h0 hcut) rfl (by decide),?_⟩;refine⟨λn s wk=>∃(i:Nat) (gi:Int),n=m.length - i/\i<=m.length/\s=[(1,.int .u64 key),(5,.int .u8 gi),(12,.slice (some ⟨b,off,none⟩) m.length c),(13,.int .i64 m.length),(14,.int .i64 i)]/\own p0.g m key=own gi (m.drop i) key/\GB none w wk,⟨_,_,⟨0,_,rfl,Nat.zero_le _,rfl,rfl,GB.refl _ _⟩,rfl,rfl,rfl,rfl,rfl,trivial⟩,?_⟩;rintro n s wk ⟨i,gi,rfl,hi,rfl,ho,gk⟩;refine au (λd=>?_) (λd=>?_)
 ·have d1:i<m.length:=by have:=of_decide_eq_true d;omega
  obtain⟨x,hx⟩:∃x,m[i]? = some x:=⟨m[i],by simp[d1]⟩;rw[List.drop_eq_getElem_cons d1,show m[i]=x from(List.getElem?_eq_some_iff.1 hx).2,own]at ho;refine⟨⟨by omega,by omega⟩,_,_,gk.get hb nofun,x.cells,kP (f:=Pc.cells) (λ_=>rfl) hx hcut,rfl,λw2 b2 m2 g2 l2=>⟨_,_,_,m2,rfl,rfl,λw3 m3 g3=>?_⟩⟩;have G:=gk.trans (g2.new g3 l2);refine⟨_,_,m3,_,rfl,au (λe=>?_) (λe=>?_)⟩
  ·have e1:¬x.f<=key:=by have:=of_decide_eq_true e;omega
   rw[if_neg e1]at ho;exact⟨congrArg (Value.int .u8) ho.symm,G⟩
  ·have e1:x.f<=key:=by have:=of_decide_eq_false e;omega
   rw[if_pos e1]at ho;exact⟨_,_,m3,_,rfl,⟨by omega,by omega⟩,_,_,⟨i+1,_,rfl,by omega,rfl,ho,G⟩,⟨rfl,rfl,rfl,rfl,rfl,trivial⟩,by omega⟩
 ·have d1:i=m.length:=by have:=of_decide_eq_false d;omega
  rw[d1,List.drop_length]at ho;exact⟨congrArg (Value.int .u8) ho.symm,gk⟩
theorem Kh(hv:zN w v m)(hm:lL m=true):ag Tryz.prog 129 #[v] w (λx w'=>x=.bool true/\GB none w w'):=by
 obtain⟨a,c,rfl,hc,hl,hv⟩:=hv;unfold lL at hm;simp only[Bool.and_eq_true,decide_eq_true_eq]at hm;obtain⟨⟨⟨hlen,agU⟩,hz⟩,hall⟩:=hm;obtain⟨p0,h0⟩:∃x,m[0]? = some x:=⟨m[0],by simp[hlen]⟩;rw[h0]at hz;have hz:p0.f=0:=by simpa using hz
 have hat:∀i,i<m.length->IJ m i=true:=λi hi=>List.all_eq_true.1 hall i (List.mem_range.2 hi)
 rcases hv with⟨_,hz⟩|⟨b,off,cs,rfl,hb,hcut⟩
 ·omega
 refine aj ah mixed Tryz.func129 rfl rfl ?_;refine au (λe=>?_) (λe=>?_)
 ·refine au (λe=>?_) (λe=>?_)
  ·refine⟨⟨by omega,by omega⟩,_,_,hb,.int .u64 p0.f,iF (o:=off+0*2) (kP (f:=Pc.cells) (k:=0) (λ_=>rfl) h0 hcut) rfl (by decide),?_⟩
   refine au (λe=>absurd hz (by simpa using e)) (λe=>?_);refine⟨λn s wk=>∃i:Nat,n=m.length - i/\i<=m.length/\s=[(0,.slice (some ⟨b,off,none⟩) m.length c),(20,.slice (some ⟨b,off,none⟩) m.length c),(21,.int .i64 m.length),(22,.int .i64 i)]/\GB none w wk,⟨_,_,⟨0,rfl,Nat.zero_le _,rfl,GB.refl _ _⟩,rfl,rfl,rfl,rfl,trivial⟩,?_⟩;rintro n s wk ⟨i,rfl,hi,rfl,gk⟩;refine au (λd=>?_) (λd=>?_)
   ·have d1:i<m.length:=by have:=of_decide_eq_true d;omega
    obtain⟨x,hx⟩:∃x,m[i]? = some x:=⟨m[i],by simp[d1]⟩;have hi':=hat i d1;unfold IJ at hi';rw[hx]at hi';simp only[Bool.and_eq_true,decide_eq_true_eq]at hi';refine⟨⟨by omega,by omega⟩,_,_,gk.get hb nofun,x.cells,kP (f:=Pc.cells) (λ_=>rfl) hx hcut,rfl,λw2 b2 m2 g2 l2=>⟨_,_,_,m2,rfl,rfl,λw3 m3 g3=>?_⟩⟩;have G:=gk.trans (g2.new g3 l2);have hb3:=G.get hb nofun;refine⟨_,_,m3,_,rfl,au (λe=>?_) (λe=>?_)⟩
    ·have:=of_decide_eq_true e
     omega
    refine⟨by kernel_rfl,au (λe=>?_) (λe=>?_)⟩
    ·obtain⟨j,rfl⟩:∃j,i=j+1:=⟨i - 1,by have:=of_decide_eq_true (b11 e);omega⟩
     obtain⟨y,hy⟩:∃y,m[j]? = some y:=⟨m[j]'(by omega),by simp[show j<m.length by omega]⟩;have Z9:=kP (f:=Pc.cells) (λ_=>rfl) hy hcut;rw[Int.toNat_natCast]at Z9;have ej:(((j+1:Nat):Int) - 1).toNat=j:=by omega
     have hxy:y.f<x.f/\¬y.g=x.g:=by
      have:=hi'.2;rw[Nat.add_sub_cancel,hy]at this;simpa using this
     refine⟨_,_,m3,_,rfl,⟨by omega,by omega⟩,⟨by omega,by omega⟩,_,_,hb3,.int .u64 y.f,by show cs.toList[off+(((j+1:Nat):Int) - 1).toNat*2+0]? = _;rw[ej];exact iF Z9 rfl (by decide),au (λq=>?_) (λq=>?_)⟩
     ·refine⟨_,_,m3,_,rfl,⟨by omega,by omega⟩,⟨by omega,by omega⟩,_,_,hb3,.int .u8 y.g,by show cs.toList[off+(((j+1:Nat):Int) - 1).toNat*2+1]? = _;rw[ej];exact iF Z9 rfl (by decide),au (λr=>?_) (λr=>?_)⟩
      ·exact absurd (eq_of_beq r).symm hxy.2
      ·exact⟨⟨by omega,by omega⟩,_,_,⟨j+2,rfl,by omega,rfl,G⟩,⟨rfl,rfl,rfl,rfl,trivial⟩,by omega⟩
     ·have:=of_decide_eq_true (b00 q)
      omega
    ·exact⟨⟨by omega,by omega⟩,_,_,⟨i+1,rfl,by omega,rfl,G⟩,⟨rfl,rfl,rfl,rfl,trivial⟩,by omega⟩
   ·exact⟨rfl,gk⟩
  ·have:=of_decide_eq_true (b00 e)
   omega
 ·have:=eq_of_beq (b00 e)
  omega
theorem M4(hv:zN w v m)(hm:lL m=true)(hc:Can m){key:Int}(hk:0<=key):ag Tryz.prog 75 #[v,.int .u64 key] w (λx w'=>x=.tuple #[.int .u8 (own 0 m key),.int .i64 0]/\GB none w w'):=by
 refine aj ah mixed Tryz.func75 rfl rfl ?_;refine⟨_,Kh hv hm,?_⟩;rintro _ w1 ⟨rfl,g1⟩;obtain⟨p0,h0⟩:∃x,m[0]? = some x:=by cases m with
  |nil=>exact hc.elim
  |cons p m=>exact⟨p,rfl⟩
 refine⟨_,Hw (hv.kz g1.kz (by decide)) h0 (by have:=Bg hm;omega) key,?_⟩;rintro _ w2 ⟨rfl,g2⟩;exact⟨congrArg (λz=>Value.tuple #[.int .u8 z,.int .i64 0]) (Mx hc key hk _ _),g1.trans g2⟩
end
section
variable{w0 w:World}{v lv:Value}{m L:List Pc}
theorem Q8(hv:zN w v m)(Kg:m.length<=1000)(lo:Int):ag Tryz.prog 148 #[v,.int .u64 lo] w (λx w'=>PN w w' x (m.filter λp=>decide (p.f<lo))):=by
 obtain⟨a,c,rfl,hc,hl,hv⟩:=hv;refine aj ah mixed Tryz.func148 rfl rfl ?_;refine⟨λn s wk=>∃(i:Nat) (x:Value),n=m.length - i/\i<=m.length/\s=[(1,.int .u64 lo),(5,x),(8,.slice a m.length c),(9,.int .i64 m.length),(10,.int .i64 i)]/\PN w wk x ((m.take i).filter λp=>decide (p.f<lo)),⟨_,_,⟨0,_,rfl,Nat.zero_le _,rfl,LN.nil (GB.refl _ _)⟩,rfl,rfl,rfl,rfl,rfl,trivial⟩,?_⟩;rintro n s wk ⟨i,x,rfl,hi,rfl,P⟩;refine au (λd=>?_) (λd=>?_)
 ·have d1:i<m.length:=by have:=of_decide_eq_true d;omega
  rcases hv with⟨_,hz⟩|⟨b,off,cs,rfl,hb,hcut⟩
  ·omega
  obtain⟨y,hy⟩:∃y,m[i]? = some y:=⟨m[i],by simp[d1]⟩;have ht:m.take (i+1)=m.take i++[y]:=by rw[List.take_add_one,hy];rfl
  obtain⟨xa,xc,rfl⟩:=af P.own;refine⟨⟨by omega,by omega⟩,_,_,P.gb.get hb nofun,y.cells,kP (f:=Pc.cells) (λ_=>rfl) hy hcut,rfl,λw2 b2 m2 g2 l2=>⟨_,_,_,m2,rfl,rfl,λw3 m3 g3=>?_⟩⟩;have P3:=P.ax (g2.new g3 l2);refine⟨_,_,m3,_,rfl,au (λe=>?_) (λe=>?_)⟩
  ·have e1:=of_decide_eq_true e
   have ef:(m.take (i+1)).filter (λp=>decide (p.f<lo))=(m.take i).filter (λp=>decide (p.f<lo))++[y]:=by rw[ht,List.filter_append];simp[e1]
   refine⟨_,_,m3,y.cells,rfl,rfl,λw4 b4 m4 g4 l4=>?_⟩;refine⟨_,y.cells,(P3.ax g4).own,⟨_,_,m4,rfl,rfl,rfl⟩,by have:=List.length_filter_le (λp:Pc=>decide (p.f<lo)) (m.take i);rw[List.length_take]at this;omega,λv' w5 ho g n=>?_⟩;have P5:=(P3.ax g4).app ho g n;obtain⟨xa',xc',rfl⟩:=af P5.own;refine⟨⟨by omega,by omega⟩,_,_,⟨i+1,_,rfl,by omega,rfl,?_⟩,⟨rfl,rfl,rfl,rfl,rfl,trivial⟩,by omega⟩;show LN _ _ _ _ _ _ _;rw[ef,List.length_append,List.map_append,List.flatten_append];simpa using P5
  ·have e1:=of_decide_eq_false e
   have ef:(m.take (i+1)).filter (λp=>decide (p.f<lo))=(m.take i).filter (λp=>decide (p.f<lo)):=by rw[ht,List.filter_append];simp;omega
   exact⟨⟨by omega,by omega⟩,_,_,⟨i+1,_,rfl,by omega,rfl,by show LN _ _ _ _ _ _ _;rw[ef];exact P3⟩,⟨rfl,rfl,rfl,rfl,rfl,trivial⟩,by omega⟩
 ·have d1:i=m.length:=by have:=of_decide_eq_false d;omega
  rw[d1,List.take_length]at P;exact P
theorem Q9(hv:zN w0 v m)(Kg:m.length<=1000)(hm:lL m=true)(Bh:Can m)(P:PN w0 w lv L)(hL:L.length<=2000){hi:Int}(h0:0<=hi)(h1:hi<=18446744073709551615):ag Tryz.prog 146 #[v,.int .u64 hi,lv] w (λx w'=>PN w0 w' x (OI m hi L)):=by
 have hv0:=hv;obtain⟨a,c,rfl,hc,hl,hv⟩:=hv;obtain⟨la,lc,rfl⟩:=af P.own;refine aj ah mixed Tryz.func146 rfl rfl ?_;unfold OI;refine au (λd=>?_) (λd=>?_)
 ·rw[if_pos (eq_of_beq d)]
  exact P
 have d1:¬hi=18446744073709551615:=by simpa using d
 rw[if_neg d1];obtain⟨p0,hp0⟩:∃x,m[0]? = some x:=by cases m with
  |nil=>exact Bh.elim
  |cons p m=>exact⟨p,rfl⟩
 refine⟨⟨by omega,by omega⟩,⟨by omega,by omega⟩,_,Hw (hv0.kz P.gb.kz (by decide)) hp0 (by omega) (hi+1),?_⟩;rintro _ w1 ⟨rfl,g1⟩;rw[show own p0.g m (hi+1)=own 0 m (hi+1)from Mx Bh _ (by omega) _ _];refine⟨_,DJ (P.ax g1) ⟨hi+1,own 0 m (hi+1)⟩ (by omega),?_⟩;intro x w2 P2;have hjl:=Dr L ⟨hi+1,own 0 m (hi+1)⟩;generalize join L ⟨hi+1,own 0 m (hi+1)⟩=J at P2 hjl |-;obtain⟨xa,xc,rfl⟩:=af P2.own;refine⟨λn s wk=>∃(i:Nat) (x:Value),n=m.length - i/\i<=m.length/\s=[(1,.int .u64 hi),(2,x),(21,.slice a m.length c),(22,.int .i64 m.length),(23,.int .i64 i)]/\PN w0 wk x ((m.take i).foldl (gz hi) J),⟨_,_,⟨0,_,rfl,Nat.zero_le _,rfl,P2⟩,rfl,rfl,rfl,rfl,rfl,trivial⟩,?_⟩;clear P2;rintro n s wk ⟨i,x,rfl,hi',rfl,P⟩;refine au (λd=>?_) (λd=>?_)
 ·have d1:i<m.length:=by have:=of_decide_eq_true d;omega
  rcases hv with⟨_,hz⟩|⟨b,off,cs,rfl,hb,hcut⟩
  ·omega
  obtain⟨y,hy⟩:∃y,m[i]? = some y:=⟨m[i],by simp[d1]⟩;have ht:m.take (i+1)=m.take i++[y]:=by rw[List.take_add_one,hy];rfl
  have hbl:=Xp hi (m.take i) J;rw[List.length_take]at hbl;obtain⟨xa,xc,rfl⟩:=af P.own;refine⟨⟨by omega,by omega⟩,_,_,P.gb.get hb nofun,y.cells,kP (f:=Pc.cells) (λ_=>rfl) hy hcut,rfl,λw2 b2 m2 g2 l2=>⟨_,_,_,m2,rfl,rfl,λw3 m3 g3=>?_⟩⟩;have P3:=P.ax (g2.new g3 l2);refine⟨_,_,m3,_,rfl,au (λe=>?_) (λe=>?_)⟩
  ·have e1:=of_decide_eq_true e
   have ef:(m.take (i+1)).foldl (gz hi) J=join ((m.take i).foldl (gz hi) J) y:=by rw[ht,List.foldl_append];exact if_pos (by omega)
   refine⟨_,_,m3,y.cells,rfl,rfl,_,DJ P3 y (by omega),λv' w5 P5=>?_⟩;obtain⟨xa',xc',rfl⟩:=af P5.own;exact⟨⟨by omega,by omega⟩,_,_,⟨i+1,_,rfl,by omega,rfl,by rw[ef];exact P5⟩,⟨rfl,rfl,rfl,rfl,rfl,trivial⟩,by omega⟩
  ·have e1:=of_decide_eq_false e
   have ef:(m.take (i+1)).foldl (gz hi) J=(m.take i).foldl (gz hi) J:=by rw[ht,List.foldl_append];exact if_neg (by omega)
   exact⟨⟨by omega,by omega⟩,_,_,⟨i+1,_,rfl,by omega,rfl,by rw[ef];exact P3⟩,⟨rfl,rfl,rfl,rfl,rfl,trivial⟩,by omega⟩
 ·have d1:i=m.length:=by have:=of_decide_eq_false d;omega
  rw[d1,List.take_length]at P;exact P
theorem M5(hv:zN w v m)(hm:lL m=true)(Bh:Can m){lo hi g:Int}(h0:0<=lo)(h1:lo<=hi)(h2:hi<=18446744073709551615)(hg:g<4):ag Tryz.prog 88 #[v,.int .u64 lo,.int .u64 hi,.int .u8 g] w (λx w'=>∃v' e,x=.tuple #[v',.int .i64 e]/\GB none w w'/\(((iL m lo hi g).length<=1000/\e=0/\PN w w' v' (iL m lo hi g))\/(1000<(iL m lo hi g).length/\e=3/\v'=.slice none 0 0))):=by
 have Kg:=Bg hm;have hv0:=hv;obtain⟨a,c,rfl,hc,hl,hv⟩:=hv;refine aj ah mixed Tryz.func88 rfl rfl ?_;refine⟨_,Kh hv0 hm,?_⟩;rintro _ w1 ⟨rfl,g1⟩;refine au (λe=>?_) (λe=>?_)
 ·refine au (λq=>?_) (λq=>?_)
  ·have:=of_decide_eq_true q
   omega
  refine⟨_,Q8 (hv0.kz g1.kz (by decide)) Kg lo,?_⟩;intro x w2 P;have hfl:=List.length_filter_le (λp:Pc=>decide (p.f<lo)) m;refine⟨_,DJ P ⟨lo,g⟩ (by omega),?_⟩;intro x2 w3 P3;have hjl:=Dr (m.filter λp=>decide (p.f<lo)) ⟨lo,g⟩;refine⟨_,Q9 (hv0.kz g1.kz (by decide)) Kg hm Bh P3 (by omega) (by omega) h2,?_⟩;intro x4 w4 P4;have P5:PN w w4 x4 (iL m lo hi g):=⟨P4.own,g1.trans P4.gb,λy hy=>Nat.le_trans g1.size (P4.new y hy)⟩;clear P P3 P4;generalize iL m lo hi g=G at P5 |-;obtain⟨xa,xc,rfl⟩:=af P5.own;refine au (λq=>?_) (λq=>?_)
  ·have:=of_decide_eq_true q
   exact⟨_,_,rfl,P5.gb,.inr ⟨by omega,rfl,rfl⟩⟩
  ·have:=of_decide_eq_false q
   exact⟨_,_,rfl,P5.gb,.inl ⟨by omega,rfl,P5⟩⟩
 ·have:=of_decide_eq_true (b00 e)
  omega
end
theorem Hy{w:World}{v:Value}{n:Nat}{xs:List Value}(h:Fz w 128 2 v n xs)(ho:xs.all one=true)(hn:n<=1000000):ag Tryz.prog 76 #[v] w (λv' w'=>LN 128 2 w w' v' n xs):=by
 obtain⟨a,c,rfl,hc,hl,hv⟩:=h;refine aj ah mixed Tryz.func76 rfl rfl ?_;rcases hv with⟨rfl,rfl⟩|⟨b,off,cs,rfl,hb,hcut⟩
 ·obtain rfl:xs=[]:=List.eq_nil_of_length_eq_zero (by omega)
  exact⟨Nat.le_refl _,LN.nil (GB.refl _ _)⟩
 ·refine⟨_,xs,dY _ _ _,⟨_,_,hb,hcut,hl,ho⟩,by omega,λv' w2 ho2 g2 n2=>?_⟩
  rw[Nat.zero_add]at ho2;exact(LN.nil (GB.refl _ _)).app ho2 g2 n2
theorem Hz{w:World}{v:Value}{n:Nat}{xs:List Value}(h:Fz w 57 7 v n xs)(ho:xs.all one=true)(hn:n<=1000000):ag Tryz.prog 78 #[v] w (λv' w'=>LN 57 7 w w' v' n xs):=by
 obtain⟨a,c,rfl,hc,hl,hv⟩:=h;refine aj ah mixed Tryz.func78 rfl rfl ?_;rcases hv with⟨rfl,rfl⟩|⟨b,off,cs,rfl,hb,hcut⟩
 ·obtain rfl:xs=[]:=List.eq_nil_of_length_eq_zero (by omega)
  exact⟨Nat.le_refl _,LN.nil (GB.refl _ _)⟩
 ·refine⟨_,xs,dY _ _ _,⟨_,_,hb,hcut,hl,ho⟩,by omega,λv' w2 ho2 g2 n2=>?_⟩
  rw[Nat.zero_add]at ho2;exact(LN.nil (GB.refl _ _)).app ho2 g2 n2
theorem UA{w:World}{v:Value}{n:Nat}{xs:List Value}(h:Fz w 107 2 v n xs)(ho:xs.all one=true)(hn:n<=1000000):ag Tryz.prog 77 #[v] w (λv' w'=>LN 107 2 w w' v' n xs):=by
 obtain⟨a,c,rfl,hc,hl,hv⟩:=h;refine aj ah mixed Tryz.func77 rfl rfl ?_;rcases hv with⟨rfl,rfl⟩|⟨b,off,cs,rfl,hb,hcut⟩
 ·obtain rfl:xs=[]:=List.eq_nil_of_length_eq_zero (by omega)
  exact⟨Nat.le_refl _,LN.nil (GB.refl _ _)⟩
 ·refine⟨_,xs,dY _ _ _,⟨_,_,hb,hcut,hl,ho⟩,by omega,λv' w2 ho2 g2 n2=>?_⟩
  rw[Nat.zero_add]at ho2;exact(LN.nil (GB.refl _ _)).app ho2 g2 n2
theorem Rb{w:World}{v:Value}{n:Nat}{xs:List Value}(h:Fz w 47 1 v n xs)(ho:xs.all one=true)(hn:n<=1000000):ag Tryz.prog 79 #[v] w (λv' w'=>LN 47 1 w w' v' n xs):=by
 obtain⟨a,c,rfl,hc,hl,hv⟩:=h;refine aj ah mixed Tryz.func79 rfl rfl ?_;rcases hv with⟨rfl,rfl⟩|⟨b,off,cs,rfl,hb,hcut⟩
 ·obtain rfl:xs=[]:=List.eq_nil_of_length_eq_zero (by omega)
  exact⟨Nat.le_refl _,LN.nil (GB.refl _ _)⟩
 ·refine⟨_,xs,dY _ _ _,⟨_,_,hb,hcut,hl,ho⟩,by omega,λv' w2 ho2 g2 n2=>?_⟩
  rw[Nat.zero_add]at ho2;exact(LN.nil (GB.refl _ _)).app ho2 g2 n2
theorem OZ{w:World}{v:Value}{n:Nat}{xs:List Value}(h:Fz w 103 2 v n xs)(ho:xs.all one=true)(hn:n<=1000000):ag Tryz.prog 80 #[v] w (λv' w'=>LN 103 2 w w' v' n xs):=by
 obtain⟨a,c,rfl,hc,hl,hv⟩:=h;refine aj ah mixed Tryz.func80 rfl rfl ?_;rcases hv with⟨rfl,rfl⟩|⟨b,off,cs,rfl,hb,hcut⟩
 ·obtain rfl:xs=[]:=List.eq_nil_of_length_eq_zero (by omega)
  exact⟨Nat.le_refl _,LN.nil (GB.refl _ _)⟩
 ·refine⟨_,xs,dY _ _ _,⟨_,_,hb,hcut,hl,ho⟩,by omega,λv' w2 ho2 g2 n2=>?_⟩
  rw[Nat.zero_add]at ho2;exact(LN.nil (GB.refl _ _)).app ho2 g2 n2
theorem Rc{w:World}{v:Value}{n:Nat}{xs:List Value}(h:Fz w 52 7 v n xs)(ho:xs.all one=true)(hn:n<=1000000):ag Tryz.prog 131 #[v] w (λv' w'=>LN 52 7 w w' v' n xs):=by
 obtain⟨a,c,rfl,hc,hl,hv⟩:=h;refine aj ah mixed Tryz.func131 rfl rfl ?_;rcases hv with⟨rfl,rfl⟩|⟨b,off,cs,rfl,hb,hcut⟩
 ·obtain rfl:xs=[]:=List.eq_nil_of_length_eq_zero (by omega)
  exact⟨Nat.le_refl _,LN.nil (GB.refl _ _)⟩
 ·refine⟨_,xs,dY _ _ _,⟨_,_,hb,hcut,hl,ho⟩,by omega,λv' w2 ho2 g2 n2=>?_⟩
  rw[Nat.zero_add]at ho2;exact(LN.nil (GB.refl _ _)).app ho2 g2 n2
end
