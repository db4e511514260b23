/- Lemmas. -/
import Derived.Test.YtignemioillaiabGreatG45
namespace Go.Proofs.YtignemioillaiabGreat
set_option maxHeartbeats 8000000
set_option linter.unusedSectionVars false
set_option maxRecDepth 100000
open List
section
open Go Go.Conc
theorem zF{g i sz:Nat}{t:Nat×Nat}(h:t∈fK g i g sz)(hi:i<sz):t.1=g/\sz≠1:=by
 unfold fK at h;obtain⟨j,hj,rfl⟩:=Jdb.1 h;obtain⟨h1,h2⟩:=mem_filter.1 hj;have h1:=Jc3.1 h1;refine⟨rfl,λe=>?_⟩;have:j=i:=by omega
 subst this;simp at h2
theorem I8{g i jT k:Nat}{t:Nat×Nat}(h:t∈fK g i jT k):t.1=jT:=by
 unfold fK at h;obtain⟨j,_,rfl⟩:=Jdb.1 h;rfl
theorem adE{A:aI}{R:MR}{c:MC}:(qd A R c).sc=R.sc:=by
 unfold qd oH;split
 .split
  .rfl
  .split<;>rfl
 .rfl
theorem zG{R:MR}{d:ByteArray}{t:Nat×Nat}{g:Nat}(h:t.1=g):(toP R d t).tg=g:=by rw[<-h];rfl
section
variable{A:aI}(HP:uG A){N:Nat}{U:MC->Prop}{Γ:Gh}{R:MR}
include HP
theorem RV.told(h:RV A N Γ R){x:ag}(ht:TL A R.sc.gs R.log R.sc.g x):RV A N Γ (Ae A.enc R x):=h.snd λt hm=>⟨λm' hd=>by
 have:=HP.tell (m:={aL 2 with p:=x}) rfl hd;exact⟨⟨λe=>by omega,λe=>by omega,λe=>by omega,λe=>by omega⟩,λ_ _=>by omega,λe=>by omega,λe=>by omega⟩,λ_ _=>by
 rw[Jg6.1 hm];exact⟨x,rfl,rfl,R.log,λk c hk=>h.lg hk,Jb0 _,ht⟩⟩
theorem RV.adF(HN:dS A)(h:RV A N Γ R)(src:Nat){tl:List (Nat×Nat)}(hs:src≠255)(ht:∀t∈tl,t.1=src):RV A N Γ (Af A.enc R src tl):=h.snd λt hm=>⟨λm' hd=>by
 obtain⟨g1,g2,g3,_⟩:=h.gd;have hi:0<=R.st.I.getD src 0/\R.st.I.getD src 0<=4294967295:=by
  rw[Jdx];cases e:R.st.I[src]? with
  |none=>exact⟨Jfb _,by show(0:Int)<=_;omega⟩
  |some x=>exact HN.L8 _ g1 x (Jcv e)
 rw[HP.jH (HN.WS _ _ (by omega) (by omega) hi.1 hi.2) hd];refine⟨⟨nofun,nofun,nofun,nofun⟩,λ_ e=>absurd (show(10:Int)<=8 from e) (by decide),nofun,λ_=>⟨rfl,R.log,λk c hk=>h.lg hk,Jb0 _,?_⟩⟩;show R.st.I.getD src 0<=(bR A (A.bg R.sc.g R.sc.gs) R.log).I.getD (t.1:Int).toNat 0;rw[ht t hm,Jfa,<-h.st];exact Jfb _,λa _=>by
 have a:(t.1:Int)=255:=a;have:=ht t hm;omega⟩
theorem RV.ans(HN:dS A)(h:RV A N Γ R){c:MC}{p:ag}(ht:c.kind=1->TL A R.sc.gs R.log R.sc.g p)(hs:c.kind=2->c.r.src.toNat≠255):RV A N Γ (oH A R c p):=by
 unfold oH;split
 .rename_i k;exact h.told HP (ht k)
 .split
  .rename_i k;exact h.adF HP HN _ (hs k) λt ht=>I8 ht
  .exact h
theorem RV.do(HA:bG A)(HN:dS A)(hU:∀c,U c->A.gc c)(o:Γ.Ok R.sc.sz U)(h:RV A N Γ R){c:MC}(hd:Γ.D R.sc.sz R.log.length c):RV A N Γ (qd A R c):=by
 have hg:A.gc c/\R.log.length<60:=by obtain⟨b,hb,_⟩:=hd;exact⟨hU c (o.wh hb).1,(o.wh hb).2⟩
 have hsg:=(HN.stay _ _ h.gd.1 hg.1);have h1:RV A N Γ {R with st:=(A.ap R.st c).1,log:=R.log++[c]}:=⟨h.fO,h.sn,h.mr,h.one,h.vt,h.wt,h.vv,h.own,h.rC,h.r0,λr=>⟨(h.eU r).1,(h.eU r).2,(h.eU r).3⟩,λr=>⟨(h.lead r).1,(h.lead r).2⟩,h.pp,h.ac,λ{k x} hk=>by
  have hk:(R.log++[c])[k]?=some x:=hk;rw[Jgw]at hk;split at hk
  .exact h.lg hk
  .rename_i hn
   have:k=R.log.length:=by
    have:=(Jcn.1 hk).1;simp at this;omega
   subst this;simp at hk;rw[<-hk];exact hd,h.kn,by
  show(A.ap R.st c).1=bR A _ (R.log++[c]);unfold bR;rw[Jg4];show _=(A.ap (bR A _ R.log) c).1;rw[<-h.st],λp hp=>(h.ou p hp).ext (.refl _) (by show R.log.length<=(R.log++[c]).length;simp),by show N<=(R.log++[c]).length;have:=h.ll;simp;omega,HA.next h.gd.1 (Jft hg.2) hg.1,h.gd.2.1,h.gd.2.2.1,hsg.2.trans h.gd.2.2.2⟩
 unfold qd;split
 .refine h1.ans HP HN (λk=>.inl ⟨R.log.length,c,by simp,k,?_⟩) λk=>?_
  .show _=(A.ap (bR A (A.bg R.sc.g R.sc.gs) ((R.log++[c]).take R.log.length)) c).2
   rw[take_left',<-h.st];rfl
  .have a:=HA.src _ _ h.gd.1 hg.1 k
   have b:=HN.lens _ h.gd.1;omega
 .exact h1
omit HP in
theorem RV.known(h:RV A N Γ R){f:Nat->Option MC}(hf:∀{k c},f k=some c->Γ.D R.sc.sz k c):RV A N Γ {R with known:=f}:=⟨h.fO,h.sn,h.mr,h.one,h.vt,h.wt,h.vv,h.own,h.rC,h.r0,λr=>⟨(h.eU r).1,(h.eU r).2,(h.eU r).3⟩,λr=>⟨(h.lead r).1,(h.lead r).2⟩,h.pp,h.ac,h.lg,hf,h.st,h.ou,h.ll,h.gd⟩
theorem RV.catch(HA:bG A)(HN:dS A)(hU:∀c,U c->A.gc c):∀(n:Nat) {R:MR},Γ.Ok R.sc.sz U->RV A N Γ R->RV A N Γ (gZ A n R)
 |0,_,_,h=>h
 |n+1,R,o,h=>by
  unfold gZ;split
  .exact h
  .rename_i c hc
   have h1:=h.known (f:=upd R.known R.log.length none) λ{k d} hd=>by
    unfold upd at hd;split at hd
    .cases hd
    .exact h.kn hd
   have h2:=RV.do HP HA HN hU (R:={R with known:=upd R.known R.log.length none}) o h1 (h.kn hc);exact RV.catch HA HN hU n (by rw[adE];exact o) h2
theorem RV.agree(HA:bG A)(HN:dS A)(hU:∀c,U c->A.gc c)(o:Γ.Ok R.sc.sz U)(h:RV A N Γ R){s:Nat}{c:MC}(hd:Γ.D R.sc.sz s c):RV A N Γ (jh A R s c):=by
 unfold jh;split
 .exact h
 .refine RV.catch HP HA HN hU _ (R:={R with props:=upd R.props s none,acc:=upd R.acc s none,sc:={R.sc with next:=max R.sc.next (s+1)},known:=upd R.known s (some c)}) o ⟨h.fO,h.sn,h.mr,h.one,h.vt,h.wt,h.vv,h.own,h.rC,h.r0,λr=>⟨(h.eU r).1,(h.eU r).2,(h.eU r).3⟩,λr=>⟨λhs=>(h.lead r).1 (Jb1 (Jbt _ _) hs),(h.lead r).2.mono λk ⟨a1,a2⟩=>⟨a1,λs' hs=>a2 s' (Jb1 (Jbt _ _) hs)⟩⟩,λ{k x} hp=>?_,λ{k x} hp=>?_,h.lg,λ{k x} hp=>?_,h.st,h.ou,h.ll,h.gd⟩
  .have hp:upd R.props s none k=some x:=hp
   unfold upd at hp;split at hp
   .cases hp
   .exact h.pp hp
  .have hp:upd R.acc s none k=some x:=hp
   unfold upd at hp;split at hp
   .cases hp
   .exact h.ac hp
  .have hp:upd R.known s (some c) k=some x:=hp
   unfold upd at hp;split at hp
   .rename_i e;cases hp;subst e;exact hd
   .exact h.kn hp
theorem RV.Ah(HA:bG A)(HN:dS A)(hU:∀c,U c->A.gc c)(o:Γ.Ok R.sc.sz U)(h:RV A N Γ R)(hi:R.sc.i<R.sc.sz){s k:Nat}(hg:∀c,R.props s=some c->A.gc c/\s<60)(hv:Γ.V k R.sc.b s):RV A N Γ (jM A R s k):=by
 unfold jM;split
 .exact h
 .rename_i c hc
  obtain⟨r2,hp⟩:=h.pp hc;have bits:∀{j},(gG R s k).testBit j=true->Γ.V j R.sc.b s:=λ{j} hj=>by
   rcases J3 hj with hj|rfl
   .cases ha:R.acc s with
    |none=>rw[ha]at hj;simp at hj
    |some a=>rw[ha]at hj;exact(h.ac ha).2 hj
   .exact hv
  have h1:RV A N Γ {R with acc:=upd R.acc s (some (gG R s k))}:=⟨h.fO,h.sn,h.mr,h.one,h.vt,h.wt,h.vv,h.own,h.rC,h.r0,λr=>⟨(h.eU r).1,(h.eU r).2,(h.eU r).3⟩,λr=>⟨(h.lead r).1,(h.lead r).2⟩,h.pp,λ{t a} ha=>by
   have ha:upd R.acc s (some (gG R s k)) t=some a:=ha;unfold upd at ha;split at ha
   .rename_i e;cases ha;subst e;exact⟨r2,bits⟩
   .exact h.ac ha,h.lg,h.kn,h.st,h.ou,h.ll,h.gd⟩
  split
  .rename_i hm
   have hd:Γ.D R.sc.sz s c:=⟨_,hp,_,hm,λj _ hj=>⟨(o.vp (bits hj)).1,bits hj⟩⟩;refine RV.agree HP HA HN hU (R:=mh A.enc {R with acc:=upd R.acc s (some (gG R s k))} {aL 8 with s:=s,c:=c} (fK R.sc.g R.sc.i R.sc.g R.sc.sz)) o (h1.snd λt ht=>vR.of (m:={aL 8 with s:=s,c:=c}) (λm' hd=>HP.dec (hg c hc).2 (hg c hc).1 hd) ⟨nofun,nofun,nofun,λ_=>hd⟩ (show(8:Int)<=8 by decide) ?_) hd;obtain⟨t1,t2⟩:=zF ht hi;exact⟨zG t1,t2,Jg5 _⟩
  .exact h1
theorem RV.sa(h:RV A N Γ R)(hi:R.sc.i<R.sc.sz)(hn:R.sc.b.n<=4294967295){s:Nat}{c:MC}(hs:s<60)(hc:A.gc c)(hp:Γ.P R.sc.b s=some c):RV A N Γ (LY A.enc R s c):=h.snd λt ht=>vR.of (m:={aL 6 with b:=R.sc.b,s:=s,c:=c}) (λm' hd=>HP.acc ⟨hn,h.mr⟩ hs hc hd) ⟨nofun,λ_=>hp,nofun,nofun⟩ (show(6:Int)<=8 by decide) ⟨zG (zF ht hi).1,(zF ht hi).2,h.mr⟩
theorem RV.prop(HA:bG A)(HN:dS A)(hU:∀c,U c->A.gc c)(o:Γ.Ok R.sc.sz U)(h:RV A N Γ R)(hi:R.sc.i<R.sc.sz)(hb:R.sc.b.n<=4294967295){s:Nat}{c:MC}(r:R.sc.role=2)(hn:s<R.sc.next)(hP:Γ.P R.sc.b s=none\/Γ.P R.sc.b s=some c)(hs:Γ.Safe R.sc.sz R.sc.b s c)(hc:A.gc c)(hw:U c)(tJ:s<60):yj R.sc.i Γ (Γ.add R.sc.i R.sc.b s c)/\(Γ.add R.sc.i R.sc.b s c).Ok R.sc.sz U/\RV A N (Γ.add R.sc.i R.sc.b s c) (iK A R s c):=by
 have ri:=h.rC (by omega);have hP':Γ.P R.sc.b s=none/\R.sc.b.id=R.sc.i\/Γ.P R.sc.b s=some c:=hP.imp (λe=>⟨e,ri⟩) id;have o1:=o.add hP' h.fO hi ⟨hb,h.mr⟩ hs ⟨hw,tJ⟩;have new:(Γ.add R.sc.i R.sc.b s c).P R.sc.b s=some c:=Jb6 ⟨rfl,rfl⟩;have h1:=h.E5 o hP (.inr ⟨r,hn⟩);have h2:RV A N (Γ.add R.sc.i R.sc.b s c) (uu {R with props:=upd R.props s (some c)} s c):=⟨h1.fO,h1.sn,h1.mr,h1.one,h1.vt,h1.wt,h1.vv,h1.own,h1.rC,h1.r0,λr=>⟨(h1.eU r).1,(h1.eU r).2,(h1.eU r).3⟩,λr=>⟨(h1.lead r).1,(h1.lead r).2⟩,λ{t x} hp=>by
  have hp:upd R.props s (some c) t=some x:=hp;unfold upd at hp;split at hp
  .rename_i e;cases hp;subst e;exact⟨r,new⟩
  .exact h1.pp hp,h1.ac,h1.lg,h1.kn,h1.st,h1.ou,h1.ll,h1.gd⟩
 refine⟨Gh.A8 hP' h.fO,o1,?_⟩;refine RV.Ah (R:=LY A.enc (uu {R with props:=upd R.props s (some c)} s c) s c) HP HA HN hU o1 (h2.sa HP hi hb tJ hc new) hi (λx hx=>?_) (.inl ⟨rfl,rfl,rfl⟩);have hx:upd R.props s (some c) s=some x:=hx;rw[zD]at hx;cases hx
 exact⟨hc,tJ⟩
end
def To(A:aI)(N:Nat)(U:MC->Prop)(Γ:Gh)(R R':MR):Prop:=∃Γ',yj R.sc.i Γ Γ'/\Γ'.Ok R.sc.sz U/\RV A N Γ' R'
theorem To.refl{A:aI}{N:Nat}{U:MC->Prop}{Γ:Gh}{R R':MR}(o:Γ.Ok R.sc.sz U)(h:RV A N Γ R'):To A N U Γ R R':=⟨Γ,.refl _ _,o,h⟩
section
variable{A:aI}(HP:uG A){N:Nat}{U:MC->Prop}{Γ:Gh}{R:MR}
include HP
theorem RV.offer(HA:bG A)(HN:dS A)(hU:∀c,U c->A.gc c)(o:Γ.Ok R.sc.sz U)(h:RV A N Γ R)(ho:Ok A R)(r:R.sc.role=2){c:MC}(hw:U c):To A N U Γ R (ig A R c):=by
 unfold ig;split
 .exact .refl o h
 .rename_i hn
  have l:=h.lead r;have tJ:R.sc.next<60:=by omega
  have h1:RV A N Γ {R with sc:={R.sc with next:=R.sc.next+1} }:=⟨h.fO,h.sn,h.mr,h.one,h.vt,h.wt,h.vv,h.own,h.rC,h.r0,λr=>⟨(h.eU r).1,(h.eU r).2,(h.eU r).3⟩,λ_=>⟨λhs=>l.1 (Nat.le_of_succ_le hs),l.2.mono λk ⟨a1,a2⟩=>⟨a1,λs' hs=>a2 s' (Nat.le_of_succ_le hs)⟩⟩,h.pp,h.ac,h.lg,h.kn,h.st,h.ou,h.ll,h.gd⟩;exact⟨_,RV.prop (R:={R with sc:={R.sc with next:=R.sc.next+1} }) HP HA HN hU o h1 ho.i.1 ho.sn.2.1 r (Jbp R.sc.next) (.inl (l.none (Jb0 _))) (λb' lt=>l.most.mono λk ⟨a1,a2⟩=>⟨lt.le a1,λv=>(a2 _ (Jb0 _) b' lt v).elim⟩) (hU c hw) hw tJ⟩
end
theorem PU{f:Nat->Option MV}:∀(l:List Nat) (a:Nat),a<=l.foldl (λa k=>if(f k).isSome=true then max a (k+1)else a) a/\∀k∈l,(f k).isSome=true->k+1<=l.foldl (λa k=>if(f k).isSome=true then max a (k+1)else a) a
 | [],a=>⟨Jb0 _,λ_ h=>by cases h⟩
 |x::l,a=>by
  obtain⟨h1,h2⟩:=PU (f:=f) l (if(f x).isSome=true then max a (x+1)else a);refine⟨Jb1 ?_ h1,λk hk hs=>?_⟩
  .split
   .exact Jbt _ _
   .exact Jb0 _
  .rcases Jb3.1 hk with rfl|hk
   .refine Jb1 ?_ h1
    rw[Jb6 hs];exact Jbr _ _
   .exact h2 k hk hs
theorem XF{f:Nat->Option MV}{n0 k:Nat}{v:MV}(h:f k=some v)(hk:k<60):k<jc f n0:=(PU (f:=f) (List.range 60) n0).2 k (Jc3.2 hk) (by rw[h];rfl)
section
variable{A:aI}{R:MR}{s:Nat}{c:MC}
theorem Vf:(qd A R c).sc=R.sc/\(qd A R c).met=R.met:=by
 unfold qd oH;split
 .split
  .exact⟨rfl,rfl⟩
  .split<;>exact⟨rfl,rfl⟩
 .exact⟨rfl,rfl⟩
theorem C8:∀(n:Nat) {R:MR},(gZ A n R).sc=R.sc/\(gZ A n R).met=R.met
 |0,_=>⟨rfl,rfl⟩
 |n+1,R=>by
  unfold gZ;split
  .exact⟨rfl,rfl⟩
  .obtain⟨h1,h2⟩:=C8 n (R:=qd A {R with known:=upd R.known R.log.length none} _)
   exact⟨h1.trans Vf.1,h2.trans Vf.2⟩
theorem Vg(h:s<R.sc.next):(jh A R s c).sc=R.sc/\(jh A R s c).met=R.met:=by
 unfold jh;split
 .exact⟨rfl,rfl⟩
 .refine⟨(C8 61).1.trans ?_,(C8 61).2⟩
  show{ R.sc with next:=max R.sc.next (s+1)}=R.sc;rw[Nat.max_eq_left h]
theorem Ns(h:s<R.sc.next):(iK A R s c).sc=R.sc/\(iK A R s c).met=R.met:=by
 unfold iK jM;split
 .exact⟨rfl,rfl⟩
 .split
  .exact Vg (R:=mh A.enc _ _ _) h
  .exact⟨rfl,rfl⟩
theorem J4:∀(n s:Nat) {R:MR},(eY A n s R).sc=R.sc
 |0,_,_=>rfl
 |n+1,s,R=>by
  unfold eY;split
  .rename_i h
   refine(J4 n (s+1)).trans ?_;split
   .rfl
   .exact(Ns h).1
  .rfl
end
def ch(R:MR)(s:Nat):MC:=((R.met s).map MV.c).getD nu
theorem To.step{A:aI}{N:Nat}{U:MC->Prop}{Γ Γ1:Gh}{R R1 R2:MR}(e:yj R.sc.i Γ Γ1)(hs:R1.sc.i=R.sc.i/\R1.sc.sz=R.sc.sz)(h:To A N U Γ1 R1 R2):To A N U Γ R R2:=by
 obtain⟨Γ',a1,a2,a3⟩:=h;rw[hs.1]at a1;rw[hs.2]at a2;exact⟨Γ',e.trans a1,a2,a3⟩
section
variable{A:aI}(HA:bG A)(HN:dS A)(HP:uG A){N:Nat}{U:MC->Prop}(hU:∀c,U c->A.gc c)(hz:U nu){Γ:Gh}{R:MR}
include HA HN HP hU hz
theorem RV.rY:∀(n s0:Nat) {Γ:Gh} {R:MR},Γ.Ok R.sc.sz U->RV A N Γ R->Ok A R->R.sc.role=2->(∀s,s0<=s->s<R.sc.next->(Γ.P R.sc.b s=none\/Γ.P R.sc.b s=some (ch R s))/\Γ.Safe R.sc.sz R.sc.b s (ch R s))->(∀s,U (ch R s))->To A N U Γ R (eY A n s0 R)
 |0,_,_,_,o,h,_,_,_,_=>.refl o h
 |n+1,s0,Γ,R,o,h,ho,r,hs,hw=>by
  unfold eY;split
  .rename_i lt
   split
   .exact RV.rY n (s0+1) o h ho r (λs a b=>hs s (by omega) b) hw
   .have hg:U (ch R s0):=hw s0
    have tJ:s0<60:=Jbz lt ho.nx;obtain⟨a1,a2,a3⟩:=RV.prop HP HA HN hU o h ho.i.1 ho.sn.2.1 r lt (hs s0 (Jb0 _) lt).1 (hs s0 (Jb0 _) lt).2 (hU _ hg) hg tJ;obtain⟨e1,e2⟩:=Ns (A:=A) (R:=R) (c:=ch R s0) lt;have ec:∀s,ch (iK A R s0 (ch R s0)) s=ch R s:=λs=>congrArg (λg:Nat->Option MV=>((g s).map MV.c).getD nu) e2
    refine To.step a1 ⟨congrArg Sc.i e1,congrArg Sc.sz e1⟩ (RV.rY n (s0+1) (Γ:=Γ.add R.sc.i R.sc.b s0 (ch R s0)) (R:=iK A R s0 (ch R s0)) (by rw[e1];exact a2) a3 (ho.prop HA tJ (hU _ hg)).1 (by rw[e1];exact r) (λs l1 l2=>?_) λs=>by rw[ec];exact hw s);rw[e1]at l2 |-;rw[ec,show(Γ.add R.sc.i R.sc.b s0 (ch R s0)).P R.sc.b s=Γ.P R.sc.b s from Jb5 λq=>by omega];exact⟨(hs s (by omega) l2).1,(hs s (by omega) l2).2.ext a1.toExt⟩
  .exact .refl o h
theorem RV.ae2(o:Γ.Ok R.sc.sz U)(h:RV A N Γ R)(ho:Ok A R)(r:R.sc.role=1)(hm:2*pc R.sc.prom>R.sc.sz):To A N U Γ R (pz A R):=by
 have c:=h.eU r;have lt:∀{s v},R.met s=some v->s<jc R.met R.log.length:=λe=>XF e (ho.mt _ _ e).2.1
 have q:∀(p:Nat->Prop),(∀k,R.sc.prom.testBit k=true->p k)->Most R.sc.sz p:=λp hp=>⟨_,hm,λk _ hk=>⟨(c.prom hk).1,hp k hk⟩⟩
 have h1:RV A N Γ {R with sc:={R.sc with role:=2,next:=jc R.met R.log.length} }:=⟨h.fO,h.sn,h.mr,h.one,h.vt,h.wt,h.vv,h.own,λ_=>h.rC (by omega),λr=>absurd (show(2:Nat)=0 from r) (by decide),λr=>absurd (show(2:Nat)=1 from r) (by decide),λ_=>⟨λ{s} hs=>by
  show Γ.P R.sc.b s=none;cases e:Γ.P R.sc.b s with
  |none=>rfl
  |some x =>
   obtain⟨v,hv,_⟩:=c.has e;have:=lt hv;have hs:jc R.met R.log.length<=s:=hs;omega,q _ λk hk=>⟨(c.prom hk).2.1,λs hs b l v=>by
  obtain⟨v,hv,_⟩:=(c.prom hk).2.2 l v;have:=lt hv;have hs:jc R.met R.log.length<=s:=hs;omega⟩⟩,λhp=>⟨rfl,(h.pp hp).2⟩,λha=>⟨rfl,(h.ac ha).2⟩,h.lg,h.kn,h.st,h.ou,h.ll,h.gd⟩
 obtain⟨Γ',a1,a2,a3⟩:=RV.rY (R:={R with sc:={R.sc with role:=2,next:=jc R.met R.log.length} }) HA HN HP hU hz 61 R.log.length o h1 ho.Kt rfl (λs _ _=>by
  show(Γ.P R.sc.b s=none\/Γ.P R.sc.b s=some (ch R s))/\Γ.Safe R.sc.sz R.sc.b s (ch R s);unfold ch;cases e:R.met s with
  |none =>
   refine⟨.inl ?_,λb' l=>q _ λk hk=>⟨l.le (c.prom hk).2.1,λv=>?_⟩⟩
   .cases e':Γ.P R.sc.b s with
    |none=>rfl
    |some x =>
     obtain⟨v,hv,_⟩:=c.has e';rw[e]at hv;cases hv
   .obtain⟨v,hv,_⟩:=(c.prom hk).2.2 l v
    rw[e]at hv;cases hv
  |some v =>
   obtain⟨p1,p2⟩:=c.met e;rcases p2.cases with eb|lb
   .rw[eb]at p1
    exact⟨.inr p1,o.safe p1⟩
   .refine⟨.inl ?_,λb' l=>?_⟩
    .cases e':Γ.P R.sc.b s with
     |none=>rfl
     |some x =>
      obtain⟨v',hv',eb⟩:=c.has e';rw[e]at hv';cases hv';rw[eb]at lb;exact(lb.no (.refl _)).elim
    .by_cases lv:b'.L v.b
     .exact o.safe p1 b' lv
     .refine q _ λk hk=>⟨l.le (c.prom hk).2.1,λx=>?_⟩
      obtain⟨v',hv',x1⟩:=(c.prom hk).2.2 l x;rw[e]at hv';cases hv';rcases x1.cases with rfl|x1
      .exact p1
      .exact(lv x1).elim) λs=>by
  show U (ch R s);unfold ch;cases e:R.met s with
  |none=>exact hz
  |some v=>exact(o.wh (c.met e).1).1
 have rr:(eY A 61 R.log.length {R with sc:={R.sc with role:=2,next:=jc R.met R.log.length} }).sc.role=2:=by rw[J4]
 refine⟨Γ',a1,a2,?_⟩;unfold pz;exact⟨a3.fO,a3.sn,a3.mr,a3.one,a3.vt,a3.wt,a3.vv,a3.own,a3.rC,λr=>⟨(a3.r0 r).1,λ_=>rfl⟩,λr=>(by have r:(eY A 61 R.log.length {R with sc:={R.sc with role:=2,next:=jc R.met R.log.length} }).sc.role=1:=r;omega),λr=>⟨(a3.lead r).1,(a3.lead r).2⟩,a3.pp,a3.ac,a3.lg,a3.kn,a3.st,a3.ou,a3.ll,a3.gd⟩
theorem RV.Ai(o:Γ.Ok R.sc.sz U)(h:RV A N Γ R)(ho:Ok A R)(r:R.sc.role=1){k:Nat}(hk5:k<5)(hk:k<R.sc.sz/\R.sc.b.E (Γ.B k)/\∀{b s},b.L R.sc.b->Γ.V k b s->∃v,R.met s=some v/\b.E v.b):To A N U Γ R (lN A R k):=by
 have h1:RV A N Γ {R with sc:={R.sc with prom:=jl R.sc.prom k} }:=⟨h.fO,h.sn,h.mr,h.one,h.vt,h.wt,h.vv,h.own,h.rC,λr0=>(by have r0:R.sc.role=0:=r0;omega),λr=>⟨λhj=>(J3 hj).elim (λhj=>(h.eU r).1 hj) (λe=>by subst e;exact hk),(h.eU r).2,(h.eU r).3⟩,λr=>⟨(h.lead r).1,(h.lead r).2⟩,h.pp,h.ac,h.lg,h.kn,h.st,h.ou,h.ll,h.gd⟩;unfold lN;split
 .rename_i hm
  exact RV.ae2 (R:={R with sc:={R.sc with prom:=jl R.sc.prom k} }) HA HN HP hU hz o h1 (ho.prom hk5) r hm
 .exact .refl o h1
theorem RV.ae3(o:Γ.Ok R.sc.sz U)(h:RV A N Γ R)(ho:Ok A R)(r:R.sc.role=0):To A N U Γ R (nX A R):=by
 unfold nX;split
 case isFalse=>exact .refl o h
 rename_i hc;obtain⟨Γ1,e1,o1,h1,hi⟩:∃Γ1,yj R.sc.i Γ Γ1/\Γ1.Ok R.sc.sz U/\RV A N Γ1 (cz R)/\(cz R).sc.b.id=R.sc.i:=by
  unfold cz;split
  .rename_i q
   refine⟨Γ,.refl _ _,o,h,?_⟩;have hz:R.sc.sz=1:=by omega
   rw[h.one hz];have:=ho.i.1;show 0=_;omega
  .rename_i q
   have hl:R.sc.b.L ⟨R.sc.seen+1,R.sc.i⟩:=.inl (Nat.lt_succ_of_le h.sn);have hl':=hl.e;rw[<-h.fO]at hl';exact⟨Γ.rise R.sc.i ⟨R.sc.seen+1,R.sc.i⟩,Gh.ym hl',o.rise hl',(h.rise o r hl (Jb0 _) (by have:=ho.i.1;have:=ho.sz;show R.sc.i<256;omega) (λe=>q (.inl e))).1,rfl⟩
 have es:(cz R).sc.i=R.sc.i/\(cz R).sc.sz=R.sc.sz/\(cz R).sc.role=R.sc.role:=by
  unfold cz;split<;>exact⟨rfl,rfl,rfl⟩
 have r1:(cz R).sc.role=0:=es.2.2.trans r;obtain⟨z1,z2⟩:=h1.r0 r1;have om:∀{s v},orM (cz R).cZ (cz R).met s=some v↔(cz R).cZ s=some v:=λ{s v}=>by
  unfold orM;rw[z2 s];cases(cz R).cZ s<;>simp
 have h2:RV A N Γ1 (rZ R):=⟨h1.fO,h1.sn,h1.mr,h1.one,h1.vt,h1.wt,h1.vv,h1.own,λ_=>hi.trans es.1.symm,λq=>absurd (show(1:Nat)=0 from q) (by decide),λ_=>⟨λ{k} hk=>by
  have hk:(cz R).sc.prom.testBit k=true:=hk;rw[z1]at hk;simp at hk,λhv=>by
  have hv:=om.1 hv;refine⟨(h1.vt hv).2,?_⟩;have:=(o1.vp (h1.vt hv).1).2.1;rw[h1.fO]at this;exact this,λhp=>by
  obtain⟨v,a,b⟩:=h1.own (hi.trans es.1.symm) hp;exact⟨v,om.2 a,b⟩⟩,λq=>absurd (show(1:Nat)=2 from q) (by decide),λhp=>(by have:=(h1.pp hp).1;omega),λha=>(by have:=(h1.ac ha).1;omega),h1.lg,h1.kn,h1.st,h1.ou,h1.ll,h1.gd⟩
 have i5:R.sc.i<5:=Jbz ho.i.1 ho.sz;refine To.step e1 ⟨es.1,es.2.1⟩ (RV.Ai (R:=rZ R) HA HN HP hU hz (by rw[<-es.2.1]at o1;exact o1) h2 ho.Ku rfl i5 ⟨Nat.lt_of_lt_of_eq ho.i.1 es.2.1.symm,?_,λ_ v=>?_⟩)
 .show bH.E _ (Γ1.B R.sc.i)
  rw[<-es.1,h1.fO];exact .refl _
 .rw[<-es.1]at v
  obtain⟨x,a,b⟩:=h1.vv v;exact⟨x,om.2 a,b⟩
end
theorem R7(g:Nat->Option MV)(v:MV):(∀s x,g s=some x->∃y,nA g v s=some y/\x.b.E y.b)/\∃y,nA g v v.slot=some y/\v.b.E y.b:=by
 have up:(∀x,g v.slot=some x->x.b.E v.b)->(∀s x,g s=some x->∃y,upd g v.slot (some v) s=some y/\x.b.E y.b)/\∃y,upd g v.slot (some v) v.slot=some y/\v.b.E y.b:=λhx=>by
  refine⟨λs x h=>?_,_,zD _ _ _,.refl _⟩;by_cases e:s=v.slot
  .subst e;exact⟨_,zD _ _ _,hx x h⟩
  .rw[upd_ne _ _ e];exact⟨x,h,.refl _⟩
 cases e:g v.slot with
 |none=>rw[yC e];exact up λx h=>by rw[e]at h;cases h
 |some o =>
  cases hb:o.b.lt v.b with
  |true=>rw[Aj e hb];exact up λx h=>by rw[e]at h;cases h;exact(bH.adD.1 hb).e
  |false=>rw[Cq e hb];exact⟨λs x h=>⟨x,h,.refl _⟩,o,e,bH.not_lt (by rw[hb];decide)⟩
theorem H5:∀(vs:List MV) (g:Nat->Option MV),(∀s x,g s=some x->∃y,ik g vs s=some y/\x.b.E y.b)/\∀v∈vs,∃y,ik g vs v.slot=some y/\v.b.E y.b
 | [],_=>⟨λ_ x h=>⟨x,h,.refl _⟩,λ_ h=>by cases h⟩
 |v::vs,g=>by
  obtain⟨h1,h2⟩:=H5 vs (nA g v);obtain⟨p1,y,p2,p3⟩:=R7 g v;refine⟨λs x h=>?_,λu hu=>?_⟩
  .obtain⟨y,a,b⟩:=p1 s x h
   obtain⟨z,c,d⟩:=h1 s y a;exact⟨z,c,b.trans d⟩
  .rcases Jb3.1 hu with rfl|hu
   .obtain⟨z,c,d⟩:=h1 _ y p2
    exact⟨z,c,p3.trans d⟩
   .exact h2 u hu
theorem C9{f:Nat->Option MV}{k:Nat}{v:MV}:v∈nV f k↔∃s,s<k/\f s=some v:=by
 unfold nV;rw[mem_filterMap];exact⟨λ⟨s,a,b⟩=>⟨s,Jc3.1 a,b⟩,λ⟨s,a,b⟩=>⟨s,Jc3.2 a,b⟩⟩
theorem J5{p q:ag}(h:dQ p q=true):p=q:=by
 cases p;cases q
 simp[dQ]at h;simp[h]
theorem Db(enc:MM->ByteArray)(R:MR)(f:Nat×Nat)(b:bH):(bN enc R f b).cZ=R.cZ/\(bN enc R f b).sc.i=R.sc.i/\(bN enc R f b).sc.sz=R.sc.sz/\(bN enc R f b).sc.g=R.sc.g/\(¬b.lt R.sc.b=true->(bN enc R f b).sc.b=b):=by
 unfold bN;split
 .rename_i h;exact⟨rfl,rfl,rfl,rfl,λn=>(n h).elim⟩
 .split
  .rename_i e;exact⟨rfl,rfl,rfl,rfl,λ_=>e.symm⟩
  .exact⟨rfl,rfl,rfl,rfl,λ_=>rfl⟩
section
variable{A:aI}(HP:uG A){N:Nat}{U:MC->Prop}{Γ:Gh}{R:MR}
include HP
theorem RV.refuse(o:Γ.Ok R.sc.sz U)(h:RV A N Γ R)(hw:R.sc.b.n<=4294967295){f:Nat×Nat}(hf:f.1=R.sc.g)(h1:R.sc.sz≠1){b:bH}(h8:b.id<256)(hn:b.n<=R.sc.seen):To A N U Γ R (bN A.enc R f b):=by
 unfold bN;split
 .refine .refl o (h.snd λt ht=>vR.of (m:={aL 5 with b:=R.sc.b}) (λm' hd=>HP.fO (.inr rfl) ⟨hw,h.mr⟩ hd) ⟨nofun,nofun,nofun,nofun⟩ (show(5:Int)<=8 by decide) ⟨zG ?_,h1,h.mr⟩)
  rw[Jg6]at ht;rw[ht];exact hf
 .rename_i lt
  split
  .exact .refl o h
  .rename_i ne
   have hl:R.sc.b.L b:=(bH.not_lt lt).cases.elim (λe=>(ne e.symm).elim) id;have hl':=hl.e;rw[<-h.fO]at hl';exact⟨Γ.rise R.sc.i b,Gh.ym hl',o.rise hl',(RV.rise (R:=gF R) (sn:=R.sc.seen) o h.stand rfl hl hn h8 h1).1⟩
theorem RV.Mq(o:Γ.Ok R.sc.sz U)(h:RV A N Γ R)(ho:Ok A R){f:Nat×Nat}(hf:f.1=R.sc.g)(h1:R.sc.sz≠1){b:bH}(hb:b.W)(hn:b.n<=R.sc.seen):To A N U Γ R (uw A.enc R f b):=by
 have hr:=RV.refuse HP o h ho.sn.2.1 hf h1 hb.2 hn;obtain⟨e1,e2,e3,e4,e5⟩:=Db A.enc R f b;unfold uw;split
 .exact hr
 .rename_i lt
  have e5:=e5 lt;obtain⟨Γ',a1,a2,a3⟩:=hr;refine⟨Γ',a1,a2,a3.snd λt ht=>vR.of (m:={aL 4 with b:=b,vs:=nV (bN A.enc R f b).cZ 60}) (λm' hd=>HP.prom hb (Ci _ _) (λv hv=>?_) hd) ⟨λ_=>⟨?_,λv hv=>?_,λb' s l v=>?_⟩,nofun,nofun,nofun⟩ (show(4:Int)<=8 by decide) ⟨zG (g:=(bN A.enc R f b).sc.g) ?_,?_,hb.2⟩⟩
  .obtain⟨s,hs,hv⟩:=C9.1 hv
   obtain⟨q1,q2,q3⟩:=ho.vt s v (by rw[<-e1];exact hv);exact⟨q1,by omega,(a2.pb (a3.vt hv).2).2⟩
  .show bH.E b (Γ'.B (bN A.enc R f b).sc.i)
   rw[a3.fO,e5];exact .refl _
  .obtain⟨s,hs,hv⟩:=C9.1 hv
   obtain⟨q1,q2,q3⟩:=ho.vt s v (by rw[<-e1];exact hv);rw[q3];refine⟨(a3.vt hv).2,?_⟩;have:=(a2.vp (a3.vt hv).1).2.1;rw[a3.fO,e5]at this;exact this
  .obtain⟨x,hx,hx'⟩:=a3.vv v
   obtain⟨q1,q2,q3⟩:=ho.vt s x (by rw[<-e1];exact hx);exact⟨x,C9.2 ⟨s,q2,hx⟩,q3,hx'⟩
  .rw[Jg6]at ht;rw[ht,e4];exact hf
  .rw[e3];exact h1
theorem RV.zk(o:Γ.Ok R.sc.sz U)(h:RV A N Γ R)(ho:Ok A R){f:Nat×Nat}(hf:f.1=R.sc.g)(h1:R.sc.sz≠1){m:MM}(hb:m.b.W)(hn:m.b.n<=R.sc.seen)(hs:m.s<60)(hp:Γ.P m.b m.s=some m.c):To A N U Γ R (kX A R f m):=by
 have hr:=RV.refuse HP o h ho.sn.2.1 hf h1 hb.2 hn;obtain⟨e1,e2,e3,e4,e5⟩:=Db A.enc R f m.b;unfold kX;split
 .exact hr
 .rename_i lt
  have e5:=e5 lt;obtain⟨Γ',a1,a2,a3⟩:=hr;have hp':Γ'.P (bN A.enc R f m.b).sc.b m.s=some m.c:=by rw[e5];exact a1.P hp
  rw[<-e3]at a2;have hi:(bN A.enc R f m.b).sc.i<(bN A.enc R f m.b).sc.sz:=by rw[e2,e3];exact ho.i.1
  have b1:=Gh.A8 (.inr hp') a3.fO;have b2:=a2.add (.inr hp') a3.fO hi (by rw[e5];exact hb) (a2.safe hp') (a2.wh hp');have b3:=a3.E5 a2 (.inr hp') (.inl hp');rw[e2]at b1;refine⟨_,a1.trans b1,by rw[<-e3,<-e2];exact b2,?_⟩;rw[e2]at b3;refine b3.snd λt ht=>vR.of (m:={aL 7 with b:=m.b,s:=m.s}) (λm' hd=>HP.ru hb hs hd) ⟨nofun,nofun,λ_=>.inl ⟨e2,e5.symm,rfl⟩,nofun⟩ (show(7:Int)<=8 by decide) ⟨zG (g:=(bN A.enc R f m.b).sc.g) ?_,?_,hb.2⟩
  .rw[Jg6]at ht;rw[ht,e4];exact hf
  .show(bN A.enc R f m.b).sc.sz≠1
   rw[e3];exact h1
theorem RV.XG:∀(l:List Nat) {R:MR},RV A N Γ R->Ok A R->RV A N Γ (l.foldl (mQ A.enc) R)
 | [],_,h,_=>h
 |k::l,R,h,ho=>by
  show RV A N Γ (l.foldl (mQ A.enc) (mQ A.enc R k));unfold mQ;split
  .rename_i c hc
   exact RV.XG l (h.sa HP ho.i.1 ho.sn.2.1 (ho.pp _ _ hc).2 (ho.pp _ _ hc).1 (h.pp hc).2) (ho.snd _ _ _)
  .exact RV.XG l h ho
omit HP in
theorem Nt(enc:MM->ByteArray):∀(l:List Nat) {R:MR},(l.foldl (mQ enc) R).log=R.log
 | [],_=>rfl
 |k::l,R=>by
  show(l.foldl (mQ enc) (mQ enc R k)).log=R.log;rw[Nt enc l];unfold mQ;split<;>rfl
theorem RV.R8(HN:dS A):∀(l:List Nat) {R:MR},(∀c∈R.log,A.gc c)->RV A N Γ R->RV A N Γ (l.foldl (r9 A.enc) R)
 | [],_,_,h=>h
 |k::l,R,lc,h=>by
  show RV A N Γ (l.foldl (r9 A.enc) (r9 A.enc R k));unfold r9;split
  .exact RV.R8 HN l lc h
  .rename_i r rs e
   obtain⟨o,ho,hr⟩:∃o,R.st.O[k]?=some o/\r∈o.2:=by
    rw[Jdx]at e;cases q:R.st.O[k]? with
    |none=>rw[q]at e;cases e
    |some o=>rw[q]at e;exact⟨o,rfl,by rw[show o.2=r::rs from e];exact Jb4⟩
   obtain⟨l1,l2,l3⟩:=HN.lane _ h.gd.1 o (Jcv ho) r hr;refine RV.R8 HN l (R:=mh A.enc R {aL 9 with r:=r} (fK R.sc.g R.sc.i k R.sc.sz)) lc (h.snd λt ht=>⟨λm' hd=>?_,λa _=>?_⟩);rotate_left
   .have a:(t.1:Int)=255:=a
    have:=I8 ht;have:=(HN.lens _ h.gd.1);have:=(Jcn.1 ho).1;omega
   rw[HP.lU l3 hd];have et:=I8 ht;refine⟨⟨nofun,nofun,nofun,nofun⟩,λ_ e=>absurd (show(9:Int)<=8 from e) (by decide),λ_=>⟨l1.trans h.gd.2.2.2,?_,R.log,λk c hk=>h.lg hk,Jb0 _,o,?_,hr⟩,nofun⟩
   .show r.dst=(t.1:Int)
    rw[et];exact HP.dst (g:=R.sc.g) (n:=R.sc.gs) lc k o (by rw[<-h.st];exact ho) r hr
   .show(bR A (A.bg R.sc.g R.sc.gs) R.log).O[(t.1:Int).toNat]?=_
    rw[et,Jfa,<-h.st];exact ho
theorem RV.sj(HN:dS A)(o:Γ.Ok R.sc.sz U)(h:RV A N Γ R)(ho:Ok A R):To A N U Γ R (sj A R):=by
 have h2:RV A N Γ (gN A R):=h.snd λt ht=>vR.of (m:={aL 3 with b:=R.sc.b}) (λm' hd=>HP.fO (.inl rfl) ⟨ho.sn.2.1,h.mr⟩ hd) ⟨nofun,nofun,nofun,nofun⟩ (show(3:Int)<=8 by decide) ⟨zG (zF ht ho.i.1).1,(zF ht ho.i.1).2,h.mr⟩
 unfold Go.Proofs.YtignemioillaiabGreat.sj;split
 .exact .refl o h
 .split
  .exact .refl o (RV.R8 HP HN _ (by unfold iL;rw[Nt];exact ho.lc) (RV.XG HP _ h2 (ho.snd _ _ _)))
  .exact .refl o h2
end
section
variable{A:aI}(HA:bG A)(HN:dS A)(HP:uG A){N:Nat}{U:MC->Prop}(hU:∀c,U c->A.gc c)(hz:U nu){Γ:Gh}{R:MR}
include HA HN HP hU hz
theorem RV.promise(o:Γ.Ok R.sc.sz U)(h:RV A N Γ R)(ho:Ok A R){f:Nat×Nat}(hf:f.2<R.sc.sz/\f.2<5){m:MM}(hv:∀v∈m.vs,A.gc v.c/\v.slot<60)(hm:m.b.E (Γ.B f.2)/\(∀v∈m.vs,Γ.P v.b v.slot=some v.c/\v.b.E m.b)/\∀b s,b.L m.b->Γ.V f.2 b s->∃v∈m.vs,v.slot=s/\b.E v.b):To A N U Γ R (jB A R f m.b m.vs):=by
 unfold jB;split
 .exact .refl o h
 .rename_i q
  have r:R.sc.role=1:=Jg8 λe=>q (.inl e)
  have eb:m.b=R.sc.b:=Jg8 λe=>q (.inr e)
  rw[eb]at hm;obtain⟨m1,m2,m3⟩:=hm;have c:=h.eU r;obtain⟨d1,d2⟩:=H5 m.vs R.met;have mt:∀s v,ik R.met m.vs s=some v->Γ.P v.b s=some v.c/\v.b.E R.sc.b:=Cr (P:=λs (v:MV)=>Γ.P v.b s=some v.c/\v.b.E R.sc.b) m.vs (λs v e=>c.met e) m2;have h1:RV A N Γ {R with met:=ik R.met m.vs}:=⟨h.fO,h.sn,h.mr,h.one,h.vt,h.wt,h.vv,h.own,h.rC,λr0=>(by have r0:R.sc.role=0:=r0;omega),λ_=>⟨λhk=>⟨(c.prom hk).1,(c.prom hk).2.1,λl v=>by
   obtain⟨x,a,b⟩:=(c.prom hk).2.2 l v;obtain⟨y,p,q⟩:=d1 _ x a;exact⟨y,p,b.trans q⟩⟩,λe=>mt _ _ e,λhp=>by
   obtain⟨x,a,b⟩:=c.has hp;obtain⟨y,p,q⟩:=d1 _ x a;rw[b]at q;refine⟨y,p,?_⟩;rcases(mt _ _ p).2.cases with e|e
   .exact e
   .exact(e.no q).elim⟩,λr=>⟨(h.lead r).1,(h.lead r).2⟩,h.pp,h.ac,h.lg,h.kn,h.st,h.ou,h.ll,h.gd⟩
  exact RV.Ai (R:={R with met:=ik R.met m.vs}) HA HN HP hU hz o h1 (ho.ik hv) r hf.2 ⟨hf.1,m1,λl v=>by
   obtain⟨x,a,b,e⟩:=m3 _ _ l v;obtain⟨y,p,q⟩:=d2 x a;rw[b]at p;exact⟨y,p,e.trans q⟩⟩
theorem RV.tick(o:Γ.Ok R.sc.sz U)(h:RV A N Γ R)(ho:Ok A R):To A N U Γ R (mR A R):=by
 have t1:To A N U Γ R (bK A R):=by
  unfold bK;split
  .rename_i r;exact RV.ae3 HA HN HP hU hz o h ho r
  .exact .refl o h
 obtain⟨o1,_,e1,e2⟩:=ho.bK HA;obtain⟨Γ',a1,a2,a3⟩:=t1;rw[<-e2]at a2;exact To.step a1 ⟨e1,e2⟩ (RV.sj HP HN a2 a3 o1)
theorem RV.take2(o:Γ.Ok R.sc.sz U)(h:RV A N Γ R)(ho:Ok A R){f:Nat×Nat}{m:MM}(gm:GM A R f m)(hs:m.b.n<=R.sc.seen)(hk:3<=m.kind->m.kind<=8->f.1=R.sc.g/\f.2<R.sc.sz/\R.sc.sz≠1/\m.b.id<256/\MF R.sc.sz Γ f.2 m)(hw:(m.kind=1->U (fM m.q))/\(m.kind=9->U (lL m.r)/\m.r.src.toNat=f.1)/\(m.kind=10->U (pU m.peer m.seq))):To A N U Γ R (qm A R f m):=by
 unfold qm;split
 .rename_i k
  unfold wW;split
  .exact .refl o h
  .rename_i r
   split
   .rename_i y
    refine .refl o (h.told HP (.inr ⟨R.log.length,m.q,Jb0 _,gm.ask k,?_,?_⟩))
    .rw[Jfn,<-h.st]
    .obtain⟨p,hp,e⟩:=any_eq_true.1 y
     rw[Jfn,<-h.st,J5 e];exact hp
   .exact RV.offer HP HA HN hU o h ho (Jg8 r) (hw.1 k)
 split
 .obtain⟨k1,k2,k3,k4,k5⟩:=hk (by omega) (by omega)
  exact RV.Mq HP o h ho k1 k3 ⟨gm.bn,k4⟩ hs
 split
 .rename_i k
  obtain⟨k1,k2,k3,k4,k5⟩:=hk (by omega) (by omega);exact RV.promise HA HN HP hU hz o h ho ⟨k2,(gm.vs k).2.2⟩ (gm.vs k).1 (k5.prom k)
 split
 .split
  .exact .refl o h.stand
  .exact .refl o h
 split
 .rename_i k
  obtain⟨k1,k2,k3,k4,k5⟩:=hk (by omega) (by omega);exact RV.zk HP o h ho k1 k3 ⟨gm.bn,k4⟩ hs (gm.acc k).2 (k5.acc k)
 split
 .rename_i k
  obtain⟨k1,k2,k3,k4,k5⟩:=hk (by omega) (by omega);unfold vW;split
  .rename_i q
   have v:=k5.ru k;rw[q.2]at v;exact .refl o (RV.Ah HP HA HN hU o h ho.i.1 (λc hc=>ho.pp _ _ hc) v)
  .exact .refl o h
 split
 .rename_i k
  obtain⟨k1,k2,k3,k4,k5⟩:=hk (by omega) (by omega);exact .refl o (RV.agree HP HA HN hU o h (k5.dec k))
 split
 .rename_i k
  unfold uy;split
  .exact .refl o h
  .rename_i r
   split
   .exact .refl o (h.adF HP HN _ (by have:=(gm.lU k).2.1;have:=HN.lens _ h.gd.1;omega) λt ht=>by rw[Jg6]at ht;rw[ht];exact(hw.2.1 k).2.symm)
   .split
    .exact RV.offer HP HA HN hU o h ho (Jg8 r) (hw.2.1 k).1
    .exact .refl o h
 split
 .rename_i k
  have e:(m.peer.toNat:Int)=m.peer:=Jfp (gm.jH k).1;unfold uz;split
  .exact .refl o h
  .rename_i r
   split
   .exact .refl o h
   .split
    .exact RV.offer HP HA HN hU o h ho (Jg8 r) (by rw[e];exact hw.2.2 k)
    .exact .refl o h
 .exact .refl o h
theorem RV.take(o:Γ.Ok R.sc.sz U)(h:RV A N Γ R)(ho:Ok A R){f:Nat×Nat}{d:ByteArray}(gm:∀m,A.dec d=some m->¬(f.1=255/\m.kind≠1)->GM A R f m)(hk:∀m,A.dec d=some m->¬(f.1=255/\m.kind≠1)->3<=m.kind->m.kind<=8->f.1=R.sc.g/\f.2<R.sc.sz/\R.sc.sz≠1/\m.b.id<256/\MF R.sc.sz Γ f.2 m)(hw:∀m,A.dec d=some m->¬(f.1=255/\m.kind≠1)->(m.kind=1->U (fM m.q))/\(m.kind=9->U (lL m.r)/\m.r.src.toNat=f.1)/\(m.kind=10->U (pU m.peer m.seq))):To A N U Γ R (kR A R f d):=by
 unfold kR;split
 .exact .refl o h
 .rename_i m hd
  split
  .exact .refl o h
  .rename_i q
   have g:=gm m hd q;have h1:RV A N Γ (pE R m):=⟨h.fO,Jb1 h.sn (Jbt _ _),h.mr,h.one,h.vt,h.wt,h.vv,h.own,h.rC,h.r0,λr=>⟨(h.eU r).1,(h.eU r).2,(h.eU r).3⟩,λr=>⟨(h.lead r).1,(h.lead r).2⟩,h.pp,h.ac,h.lg,h.kn,h.st,h.ou,h.ll,h.gd⟩;exact RV.take2 (R:=pE R m) HA HN HP hU hz o h1 (ho.seen g.bn) ⟨g.bn,g.ask,g.vs,g.acc,g.ru,g.dec,g.lU,g.jH⟩ (Jbr _ _) (hk m hd q) (hw m hd q)
end
end
