import Derived.Conc.Beside
import Derived.Deep.RegionLaw
import Derived.Test.YtnkpmooengcinaaGreatPAD
import Derived.Test.YtnkpmooengcinaaGreatPAE
import Derived.Test.YtnkpmooengcinaaGreatPAF
set_option linter.all false
set_option maxRecDepth 100000
set_option maxHeartbeats 16000000
namespace Go.Proofs.YtnkpmooengcinaaGreat
open Go.Proofs.Tryz
namespace cW
open Conc ConcN av bn
def oz(Shun:uan)(B:Nat)(e:Event):Prop:=(∀x,(MemAct.ofEvent e).touch?=some x->(x.loc.isMemory=true->(Shun x.loc->x.kind≠ .plain)/\(x.kind=.atomic->Shun x.loc))/\∀b,eT x.loc=some b->b<B)/\∀a,MemAct.ofEvent e≠ .mark (.release a)
structure mQ(Shun:uan)(B d n:Nat)(t:Trace):Prop where
 gs:∀op∈t,op.g<n
 p_:∀op∈t,∀a,op.act≠ .mark (.release a)
 nO:∀i a,touchAt t i=some a->a.loc.isMemory=true->a.kind=.atomic->Shun a.loc
 HQ:∀said,¬Race said t
 known:∀i a,touchAt t i=some a->a.loc.isMemory=true->Knows t 0 i\/(Shun a.loc/\a.kind=.atomic)
 over:t.HandedOver
 hears:Deaf t 0=d
 low:∀i a b,touchAt t i=some a->eT a.loc=some b->b<B
variable{es:uav}
section
variable{Shun:uan}{B d n:Nat}{t:Trace}
theorem mQ.mono{c:Nat}(h:mQ Shun B d n t)(g:B<=c):mQ Shun c d n t:=⟨h.gs,h.p_,h.nO,h.HQ,h.known,h.over,h.hears,λi a b f e=>van (h.low i a b f e) g⟩
def mQ.own(h:mQ Shun B d n t)(hn:0<n){fn:ual}{pos:String}(f:∀e∈es,oz Shun B e):mQ Shun B (deafBehind d es) n (t++MemOp.ofEvents 0 fn pos es):=by
 have u:∀op∈MemOp.ofEvents 0 fn pos es,op.g=0:=λop c=>DN;refine⟨λop c=>(vdr.1 c).elim (h.gs op) AN,λop c=>(vdr.1 c).elim (h.p_ op) (λx=>by obtain⟨e,g,rfl⟩:=Conc.mem_ofEvents x;exact(f e g).2),λi a j r hk=>?_,λsaid=>noRace_append (h.HQ said) u λi a j op c b m l=>?_,λi a j v=>?_,handedOver_app h.over AN,?_,λi a b j m=>?_⟩
 .obtain⟨x,k,p⟩:=touch_of j;rcases vbl k with⟨_,s⟩|⟨_,o⟩
  .exact h.nO i a EB r hk
  .obtain⟨e,g,rfl⟩:=Conc.mem_ofEvents o;exact(((f e g).1 a p).1 r).2 hk
 .rcases h.known i a j l.2.1 with hk|⟨q,y⟩
  .exact hk
  .have w:b.kind≠ .plain:=by obtain⟨e,g,rfl⟩:=Conc.mem_ofEvents c;exact(((f e g).1 b m).1 (by rw[<-l.1];exact l.2.1)).1 (l.1▸q)
   obtain⟨_,_,_,z⟩:=l;grind
 .obtain⟨x,k,p⟩:=touch_of j;rcases vbl k with⟨_,s⟩|⟨_,o⟩
  .exact(h.known i a EB v).imp (·.app _) id
  grind[knows_own]
 .rw[Deaf_own,h.hears]
 .obtain⟨x,k,p⟩:=touch_of j;rcases vbl k with⟨_,s⟩|⟨_,o⟩
  .exact h.low i a b EB m
  .obtain⟨e,g,rfl⟩:=Conc.mem_ofEvents o;exact((f e g).1 a p).2 b m
theorem ajc{e:Event}(h:e.mute=true)(a:Addr):MemAct.ofEvent e≠ .mark (.release a):=by
 obtain⟨loc,wr,b⟩:=e;cases loc<;>simp_all[Event.mute]
 grind[MemAct.ofEvent]
theorem mQ.mute(h:mQ Shun B d n t){g:Nat}(hg:g≠0)(s:g<n){fn:ual}{pos:String}(m:∀e∈es,e.mute=true):mQ Shun B d n (t++MemOp.ofEvents g fn pos es):=by
 have l:∀op∈MemOp.ofEvents g fn pos es,op.g=g:=λop c=>DN;have hn:∀op∈MemOp.ofEvents g fn pos es,op.act.touch?=none:=λop c=>by grind[Conc.mem_ofEvents,touch_mute]
 refine⟨λop c=>(vdr.1 c).elim (h.gs op) AN,λop c=>(vdr.1 c).elim (h.p_ op) (λx=>by grind[Conc.mem_ofEvents,ajc]),λi a j q hk=>?_,λsaid=>noRace_append (h.HQ said) l AN,λi a j m=>?_,handedOver_app h.over AN,(Deaf_other t hg _ l).trans h.hears,λi a b j r=>?_⟩
 .obtain⟨x,f,p⟩:=touch_of j;rcases vbl f with⟨_,k⟩|⟨_,o⟩
  .exact h.nO i a EB q hk
  grind
 .obtain⟨x,f,p⟩:=touch_of j;rcases vbl f with⟨_,k⟩|⟨_,o⟩
  .exact(h.known i a EB m).imp (·.app _) id
  grind
 .obtain⟨x,f,p⟩:=touch_of j;rcases vbl f with⟨_,k⟩|⟨_,o⟩
  .exact h.low i a b EB r
  grind
end
def lN(P:ck)(Post:fE)(m:Machine)(t:Trace):Prop:=
 ∃N last o w' cF,runNT P (N+1) m t=(.ended o w',cF)/\runN P N m=.next last/\step P last=.ended o w'/\Conc.Good P Post last o w' cF
theorem lN.step{P:ck}{Post:fE}{m a:Machine}{t:Trace}{ops:Array MemOp}(hs:stepT P m=(.next a,ops))(h:lN P Post a (t++ops)):lN P Post m t:=by obtain⟨N,last,o,w',d,f,e,c,b⟩:=h;refine⟨N+1,last,o,w',d,by grind[runNT],?_,c,b⟩;grind[runN,Go.step]
theorem lN.leads{P:ck}{Post:fE}{q:Machine->Trace->Prop}(hq:∀m t,q m t->lN P Post m t):∀(n:Nat){m a:Machine}{t b:Trace},runNT P n m t=(.next a,b)->q a b->lN P Post m t
 |0,m,a,t,b,h,k=>by grind[runNT]
 |n+1,m,a,t,b,h,k=>by simp[runNT]at h;cases hs:stepT P m with|mk r ops=>rw[hs]at h;cases r with|next m1=>exact lN.step hs (lN.leads hq n h k)|ended o w=>grind
def ca(P:ck)(Post:fE)(n:Nat)(Shun:uan)(d:Nat)(g:uai)(w:aH):Prop:=
 ∀(gs:ubc)(sl:ubd)(q:uas)(t:Trace),gs.size=n->gs[0]?=some g->Leavers P t gs q->mQ Shun w.heap.size d n t->lN P Post (crowd gs w sl) t
inductive er(P:ck)(Shun:uan)(Stop:uax):Nat->Goroutine->aH->Prop
 |stop {d:Nat} {g:uai} {w:aH} (h:∀k,Stop d g (w.at k)):er P Shun Stop d g w
 |step {d:Nat} {g:uai} {w:aH} (hs:g.status=.running) (ok:∀k,∃g' w' es,stepG P true g (w.at k)=.go g' w' es/\(∀e∈es,oz Shun w'.heap.size e)/\w.heap.size<=w'.heap.size)
  (next:∀k g' w' es,stepG P true g (w.at k)=.go g' w' es->er P Shun Stop (deafBehind d es) g' w'):er P Shun Stop d g w
section
variable{P:ck}{Shun:uan}{Stop Stop':uax}{d:Nat}{g:uai}{w:aH}
def er.mk(hs:g.status=.running)(h:∀k,∃g' w' es,stepG P true g (w.at k)=.go g' w' es/\(∀e∈es,oz Shun w'.heap.size e)/\w.heap.size<=w'.heap.size/\er P Shun Stop (deafBehind d es) g' w'):er P Shun Stop d g w:=
 .step hs (λk=>let⟨g',w',es,a,i,f,_⟩:=h k;AN) λk g1 w1 b e=>by obtain⟨g',w',es,a,_,_,c⟩:=h k;grind
theorem er.at(h:er P Shun Stop d g w)(k:Nat):er P Shun Stop d g (w.at k):=by cases h with|stop h=>exact .stop λk'=>h k'|step hs h hn=>exact .step hs (λk'=>h k') (λk'=>hn k')
theorem er.bind(h:er P Shun Stop d g w)(a:∀d g w,Stop d g w->er P Shun Stop' d g w):er P Shun Stop' d g w:=by induction h with|@stop d g w h=>exact a _ _ _ (h w.drawn)|step hs h hn b=>exact .step hs h AN
theorem jz{R:aH->aH->Prop}(b:∀w k,R w (w.at k)):∀(n:Nat)(g:uai)(w:aH),Goes P true R Go.ConcR.DC0 (λg w=>er P Shun Stop d g w) n g w->er P Shun Stop d g w
 |0,g,w,h=>h w (b w w.drawn)
 |n+1,g,w,h=>by
  rcases h with h|⟨hs,h⟩
  .exact h w (b w w.drawn)
  .refine er.mk hs λk=>?_;have a:=h (w.at k) (b w k);cases hst:stepG P true g (w.at k)with
   |go g1 w1 es=>rw[hst]at a;obtain⟨⟨rfl,rfl⟩,c⟩:=a;exact⟨g1,w.at k,#[],U,Ab,vad _,jz b n g1 (w.at k) c⟩
   | _=>rw[hst]at a;exact a.elim
theorem WK{g':uai}:∀(n:Nat)(g:uai)(w:aH),Goes P true (λ_ _=>True) Go.ConcR.DC0 (λe _=>e=g') n g w->(∀k,Stop d g' (w.at k))->er P Shun Stop d g w
 |0,g,w,h,hs=>by have:=h w trivial;subst this;exact .stop hs
 |n+1,g,w,h,hs=>by
  rcases h with h|⟨b,h⟩
  .have:=h w trivial;subst this;exact .stop hs
  .refine er.mk b λk=>?_;have a:=h (w.at k) trivial;cases hst:stepG P true g (w.at k)with
   |go g1 w1 es=>rw[hst]at a;obtain⟨⟨rfl,rfl⟩,c⟩:=a;exact⟨g1,w.at k,#[],U,Ab,vad _,WK n g1 (w.at k) c λk'=>hs k'⟩
   | _=>rw[hst]at a;exact a.elim
theorem BD(t:Trace)(fn:ual)(pos:String)(es:uav){j:Nat}(b:0≠j):Deaf (t++MemOp.ofEvents 0 fn pos es) j=Deaf t j:=
 Deaf_other t (g':=0) AY _ (λop a=>DN)
def PI{gs:ubc}{q:uas}{t:Trace}{a:uai}(h:Leavers P t gs q)(h0:gs[0]?=some a)(hrun:a.status=.running){i k:Nat}{g:uai}{sl':ubd}(u:0<i)(hi:gs[i]?=some g)(hg:g.status=.running):
 ∃gs' l fn pos es,runT P (crowd gs (w.at k) sl') i=(.next (crowd gs' (w.at k) sl'),MemOp.ofEvents i fn pos es)/\gs'.size=gs.size/\gs'[0]?=some a/\Leavers P (t++MemOp.ofEvents i fn pos es) gs' l/\(∀e∈es,e.mute=true)/\sumTo gs'.size l<sumTo gs.size q:=by
 have hq:=h.old i g u hi;have s:(i==0)=false:=AN;have c:i<gs.size:=(vag.1 hi).1;cases o:q i with
 |zero=>rw[o]at hq;rw[hq.1]at hg;cases hg
 |succ k'=>
  rw[o]at hq;rcases hq with⟨B,_⟩|⟨_,g',es,A,r,z⟩
  .grind
  have p:=runT_crowd_go (P:=P) (sl:=sl') (i:=i) hi (by rw[s];exact r (w.at k));have hsz:((gs.map (woken P g g' (w.at k))).setIfInBounds i g').size=gs.size:=Ab;have C:sumTo gs.size (upd q i k')+(k'+1)=sumTo gs.size q+k':=by have:=sumTo_upd q k' id c;simp_all
  refine⟨_,upd q i k',_,_,es,p,hsz,?_,⟨λj x n m=>?_,λj n=>?_⟩,A,AN⟩
  .grind[woken_run]
  .by_cases d:i=j
   .grind[upd_same,Deaf_own]
   .rw[vdh d,vbw]at m;obtain⟨y,v,rfl⟩:=vaj.1 m;have f:=h.old j y n v;rw[woken_quitsD f,upd_ne q k' (Ne.symm d),Deaf_other t d _ (λop b=>DN)];grind
  .rw[Deaf_other t (g':=i) AN _ (λop b=>DN)];exact h.above j AN
def Ll{gs:ubc}{q:uas}{t:Trace}{a:uai}{B n:Nat}(hn:gs.size=n)(p:Leavers P t gs q)(m:mQ Shun B d n t)(h0:gs[0]?=some a)(hrun:a.status=.running){i k:Nat}{g:uai}{sl':ubd}(c:0<i)(hi:gs[i]?=some g)(hg:g.status=.running):
 ∃gs' b ops,runT P (crowd gs (w.at k) sl') i=(.next (crowd gs' (w.at k) sl'),ops)/\gs'.size=gs.size/\gs'[0]?=some a/\Leavers P (t++ops) gs' b/\mQ Shun B d n (t++ops)/\sumTo gs'.size b<sumTo gs.size q:=by
 obtain⟨gs',b,fn,pos,es,l,j,h,f,r,o⟩:=PI (w:=w) (k:=k) (sl':=sl') p h0 hrun c hi hg;have e:i<gs.size:=(vag.1 hi).1;exact⟨gs',b,_,l,j,h,f,m.mute AY AY r,o⟩
def EW{gs:ubc}{q:uas}{t:Trace}{a:uai}(c:Leavers P t gs q)(h0:gs[0]?=some a)(hrun:a.status=.running):∀g∈gs,awake g:=by
 intro g hg;obtain⟨i,hi,rfl⟩:=Array.mem_iff_getElem.1 hg;rcases vbh i with rfl|b
 .grind[awake_of]
 .exact awake_of ((c.old i _ b (vak hi)).status.elim .inl AN)
def PJ{Post:fE}{n:Nat}(hs:g.status=.running)(h:∀k,∃g' w' es,stepG P true g (w.at k)=.go g' w' es/\(∀e∈es,oz Shun w'.heap.size e)/\w.heap.size<=w'.heap.size/\ca P Post n Shun (deafBehind d es) g' w'):ca P Post n Shun d g w:=by
 have key:∀(M:Nat)(gs:ubc)(sl:ubd)(q:uas)(t:Trace)(p:Nat),sumTo gs.size q<=M->gs.size=n->gs[0]?=some g->Leavers P t gs q->mQ Shun w.heap.size d n t->lN P Post (crowd gs (w.at p) sl) t:=by
  intro M;induction M with
  |zero=>
   intro gs sl q t p C hn h0 a c;obtain⟨i,g1,k,sl',hi,hg,hst⟩:=crowd_pick (P:=P) (w:=w.at p) (sl:=sl) (EW a h0 hs) AN;rcases vbh i with rfl|z
   .obtain rfl:g1=g:=by grind
    obtain⟨g',w',es,o,u,s,r⟩:=h k;have v:=runT_crowd_go (P:=P) (sl:=sl') (i:=0) hi (show stepG P (0==0) g1 (w.at k)=_ from o);have l:0<gs.size:=(vag.1 h0).1;refine lN.step (hst.trans v) (r _ _ q _ AN AN ⟨λj x m f=>?_,λj m=>?_⟩ ((c.mono s).own AY u))
    .have b:0≠j:=by omega
     rw[vdh b,vbw]at f;obtain⟨y,A,rfl⟩:=vaj.1 f;have hq:=a.old j y m A;grind[woken_quitsD,BD]
    .rw[BD _ _ _ _ AN];exact a.above j AN
   .obtain⟨gs',B,ops,_,_,_,_,_,l⟩:=Ll (w:=w) (k:=k) (sl':=sl') hn a c h0 hs z hi hg;omega
  |succ M E=>
   intro gs sl q t p C hn h0 a c;obtain⟨i,g1,k,sl',hi,hg,hst⟩:=crowd_pick (P:=P) (w:=w.at p) (sl:=sl) (EW a h0 hs) AN;rcases vbh i with rfl|z
   .obtain rfl:g1=g:=by grind
    obtain⟨g',w',es,o,u,s,r⟩:=h k;have v:=runT_crowd_go (P:=P) (sl:=sl') (i:=0) hi (show stepG P (0==0) g1 (w.at k)=_ from o);have l:0<gs.size:=(vag.1 h0).1;refine lN.step (hst.trans v) (r _ _ q _ AN AN ⟨λj x m f=>?_,λj m=>?_⟩ ((c.mono s).own AY u))
    .have b:0≠j:=by omega
     rw[vdh b,vbw]at f;obtain⟨y,A,rfl⟩:=vaj.1 f;have hq:=a.old j y m A;grind[woken_quitsD,BD]
    .rw[BD _ _ _ _ AN];exact a.above j AN
   .obtain⟨gs',B,ops,o,u,s,r,F,D⟩:=Ll (w:=w) (k:=k) (sl':=sl') hn a c h0 hs z hi hg;exact lN.step (hst.trans o) AN
 intro gs sl q t hn h0 a c;exact key _ gs sl q t w.drawn IB hn h0 a c
def wo{Post:fE}{n:Nat}(h:er P Shun (ca P Post n Shun) d g w):ca P Post n Shun d g w:=by induction h with|@stop d g w h=>exact h w.drawn|step hs h hn a=>refine PJ hs λk=>?_;obtain⟨g',w',es,e,c,b⟩:=h k;grind
def WN{Post:fE}{gs:ubc}{q:uas}{t:Trace}{B n k f:Nat}{sl sl':ubd}(hn:0<n)(hst:stepT P (crowd gs (w.at f) sl)=runT P (crowd gs (w.at k) sl') 0)(h:Leavers P t gs q)(p:mQ Shun B d n t)(hi:gs[0]?=some g){v:Value}(o:stepG P true g (w.at k)=.ended (.done v) (w.at k) es)(b:∀e∈es,oz Shun B e)(r:Post v (w.at k)):lN P Post (crowd gs (w.at f) sl) t:=by
 have m:=runT_many_ended (P:=P) (sl:=sl') (i:=0) hi (show stepG P (0==0) g (w.at k)=_ from o);have l:=p.own hn (fn:=g.frame.fn) (pos:=g.frame.place) b;have hs:=hst.trans m;refine⟨0,_,_,_,_,by simp[runNT,hs],U,by simp[Go.step,hs],v,U,r,l.HQ,l.over,⟨λx a=>?_,U⟩,λj x a c=>?_⟩
 .obtain⟨j,c⟩:=List.mem_iff_getElem?.1 a;rw[List.getElem?_drop]at c;exact⟨_,(h.old (1+j) x AY (by grind[crowd])).leaves⟩
 .have hq:=h.old j x AY a;refine⟨q j,?_⟩;have e:(t++MemOp.ofEvents 0 g.frame.fn g.frame.place es).deaf j (t++MemOp.ofEvents 0 g.frame.fn g.frame.place es).size=Deaf t j:=BD t _ _ _ AY;rw[e];exact hq.hears _
def aje{Post:fE}{n:Nat}(hs:g.status=.running)(h:∀k,∃v es,stepG P true g (w.at k)=.ended (.done v) (w.at k) es/\(∀e∈es,oz Shun w.heap.size e)/\Post v (w.at k)):ca P Post n Shun d g w:=by
 have key:∀(M:Nat)(gs:ubc)(sl:ubd)(q:uas)(t:Trace)(f:Nat),sumTo gs.size q<=M->gs.size=n->gs[0]?=some g->Leavers P t gs q->mQ Shun w.heap.size d n t->lN P Post (crowd gs (w.at f) sl) t:=by
  intro M;induction M with
  |zero=>
   intro gs sl q t f r hn h0 a b;obtain⟨i,g1,k,sl',hi,hg,hst⟩:=crowd_pick (P:=P) (w:=w.at f) (sl:=sl) (EW a h0 hs) AN;rcases vbh i with rfl|m
   .obtain rfl:g1=g:=by grind
    obtain⟨v,es,c,l,j⟩:=h k;exact WN AN hst a b h0 c l j
   .obtain⟨gs',o,ops,_,_,_,_,_,p⟩:=Ll (w:=w) (k:=k) (sl':=sl') hn a b h0 hs m hi hg;omega
  |succ M u=>
   intro gs sl q t f r hn h0 a b;obtain⟨i,g1,k,sl',hi,hg,hst⟩:=crowd_pick (P:=P) (w:=w.at f) (sl:=sl) (EW a h0 hs) AN;rcases vbh i with rfl|m
   .obtain rfl:g1=g:=by grind
    obtain⟨v,es,c,l,j⟩:=h k;exact WN AN hst a b h0 c l j
   .obtain⟨gs',o,ops,c,l,j,y,x,s⟩:=Ll (w:=w) (k:=k) (sl':=sl') hn a b h0 hs m hi hg;exact lN.step (hst.trans c) AN
 intro gs sl q t hn h0 a b;exact key _ gs sl q t w.drawn IB hn h0 a b
end
section
open ConcM
section
variable{P:ck}{Shun:uan}{Stop:uax}{d:Nat}
def mh{g g1:uai}{w w1:aH}(hs:g.status=.running)(h:∀k,stepG P true g (w.at k)=.go g1 (w1.at k) es)(a:∀e∈es,oz Shun w1.heap.size e)(hsz:w.heap.size<=w1.heap.size)(b:er P Shun Stop (deafBehind d es) g1 w1):er P Shun Stop d g w:=
 er.mk hs λk=>⟨g1,w1.at k,es,h k,a,hsz,b.at k⟩
def cI{a b c:aH}(h:AtRel a b)(k:AtRel b c):AtRel a c:=atRel_trans a b c h k
def Lm{m:Mark}(d:∀a,m≠ .release a/\m≠ .read a/\m≠ .write a)(wr b:Bool){B:Nat}:oz Shun B ⟨.mark m,wr,b⟩:=by
 have f:(MemAct.ofEvent ⟨.mark m,wr,b⟩)=.mark m:=by cases wr<;>cases b<;>rfl
 refine⟨λx c=>?_,λa e=>?_⟩
 .simp_all[MemAct.touch?]
 grind
def WO{a:Addr}(hs:Shun (.cell a)){B:Nat}(e:a.block<B)(wr:Bool):oz Shun B ⟨.cell a,wr,true⟩:=by
 have f:(MemAct.ofEvent ⟨.cell a,wr,true⟩)=.access ⟨.cell a,wr,true⟩:=by cases wr<;>rfl
 refine⟨λx c=>?_,AN⟩;rw[f]at c;simp only[MemAct.touch?,vbk]at c;subst c;exact⟨AN,λb d=>by cases d;exact e⟩
def BE{a:Addr}(hs:¬Shun (.cell a)){B:Nat}(e:a.block<B)(wr:Bool):oz Shun B ⟨.cell a,wr,false⟩:=by
 have f:(MemAct.ofEvent ⟨.cell a,wr,false⟩)=.access ⟨.cell a,wr,false⟩:=by cases wr<;>rfl
 refine⟨λx c=>?_,AN⟩;rw[f]at c;simp only[MemAct.touch?,vbk]at c;subst c;exact⟨AN,λb d=>by cases d;exact e⟩
theorem WP{K mine:c5}{e:Event}{B:Nat}(h:xv K mine e)(hs:∀b,K b\/mine b->∀l,eT l=some b->¬Shun l)(n:∀b,K b\/mine b->b<B):oz Shun B e:=by
 obtain⟨loc,wr,g⟩:=e;cases loc with
 |cell a=>
  obtain⟨j,_,f⟩:=h;simp only at f;subst f;refine⟨λx d=>?_,λa e=>by cases wr<;>cases e⟩
  have c:x=⟨.cell a,wr,.plain⟩:=by grind[MemAct.ofEvent,MemAct.touch?]
  subst c;exact⟨λ_=>⟨λe=>absurd e (hs _ j _ U),AN⟩,λb i=>by cases i;grind⟩
 |obj r=>
  obtain⟨j,_,f⟩:=h;simp only at f;subst f;refine⟨λx d=>?_,λa e=>by cases wr<;>cases e⟩
  have c:x=⟨.obj r,wr,.plain⟩:=by grind[MemAct.ofEvent,MemAct.touch?]
  subst c;exact⟨λ_=>⟨λe=>absurd e (hs _ j _ U),AN⟩,λb i=>by cases i;grind⟩
 |output=>
  refine⟨λx d=>?_,λa e=>by cases wr<;>cases g<;>cases e⟩
  have c:x.loc=.output:=by grind[MemAct.ofEvent,MemAct.touch?]
  rw[c];exact⟨λe=>(by simp[Loc.isMemory]at e),λb e=>DG⟩
 |goroutines=>exact h.elim
 |mark m=>
  have k:(MemAct.ofEvent ⟨.mark m,wr,g⟩)=.mark m:=by cases wr<;>cases g<;>rfl
  cases m<;>first|exact h.elim|exact⟨λx d=>(by rw[k]at d;cases d),AN⟩
structure Left(X Y:aV):Prop where
 sub:∀b,X.mine b->Y.mine b
 kept:∀b,b<X.w.heap.size->¬X.mine b->Y.w.heap[b]?=X.w.heap[b]?
 new:∀b,Y.mine b->X.mine b\/(X.w.heap.size<=b/\b<Y.w.heap.size)
 size:X.w.heap.size<=Y.w.heap.size
 os:OsLater X.w.os Y.w.os
 output:Y.w.output=X.w.output
 tape:Y.w.tape=X.w.tape
 run:X.g.status=.running->Y.g.status=.running
def Ln{K:c5}{post:aV->Prop}{X:aV}(h:iH P true K post X):X.g.status=.running->(∀b,K b\/X.mine b->b<X.w.heap.size)->(∀b,K b\/X.mine b\/X.w.heap.size<=b->∀l,eT l=some b->¬Shun l)->
 (∀Y,post Y->Left X Y->er P Shun Stop d Y.g Y.w)->er P Shun Stop d X.g X.w:=by
 induction h with
 |@done X h=>exact λhs _ _ k=>k X h ⟨λ_ h=>h,λ_ _ _=>U,AN,vad _,.refl _,U,U,id⟩
 |@step X ok _ j=>
  intro hs t v k;refine er.mk hs λn=>?_;have hrel:j4 K X (X.w.at n):=⟨λ_ _=>U,vad _,.refl _⟩;obtain⟨g1,w1,es,hst,hg⟩:=ok (X.w.at n) hrel;have hsz:X.w.heap.size<=w1.heap.size:=hg.size;have p:∀b,grown X.mine (X.w.at n) w1 b->X.mine b\/(X.w.heap.size<=b/\b<w1.heap.size):=λb h=>h;have r:∀b,K b\/grown X.mine (X.w.at n) w1 b->∀l,eT l=some b->¬Shun l:=AN;have f:∀b,K b\/grown X.mine (X.w.at n) w1 b->b<w1.heap.size:=AN;have q:deafBehind d es=d:=by
   have:∀(l:ubm)(d:Nat),(∀e∈l,xv K (grown X.mine (X.w.at n) w1) e)->deafBehind d l.toArray=d:=by
    intro l;induction l with
    |nil=>intro d _;rfl
    |cons e l ihl=>
     intro d a;have i:deafBehind d (e::l).toArray=deafBehind (deafBehind d #[e]) l.toArray:=by simp[deafBehind]
     have g:deafBehind d #[e]=d:=by
      have c:=a e Ab;obtain⟨loc,wr,s⟩:=e;cases loc with
      |mark m=>cases m<;>first|exact c.elim|rfl
      | _=>rfl
     grind
   exact this es.toList d λe c=>hg.evs e AN
  refine⟨g1,w1,es,hst,λe c=>WP (hg.evs e c) r f,hsz,?_⟩;rw[q];refine j (X.w.at n) g1 w1 es hrel hst hg.run f (λb u=>?_) (λY o a=>k Y o ?_)
  .grind
  .refine⟨λb h=>a.sub b (.inl h),λb i g=>(a.kept b AN λh=>?_).trans (hg.kept b i g),λb h=>?_,vac hsz a.size,(show OsLater X.w.os Y.w.os from by rw[<-show w1.os=X.w.os from hg.os];exact a.os),a.output.trans hg.output,a.tape.trans hg.tape,λ_=>a.run hg.run⟩
   .grind
   .rcases a.new b h with h|h
    .rcases p b h with h|h
     .grind
     .exact .inr ⟨h.1,van h.2 a.size⟩
    grind
end
end
end cW
namespace eW
open Conc ConcM av bn ae fY
variable{es:uav}{g g1:uai}
section
section
variable{Z:eV}{Q:ck}{Stop:Bool->Z.Lo->aV->Prop}{m:Bool}{l:Z.Lo}{γ:Z.aM}
def s7.more{M M':c5}(h:∀b,M b->M' b){d:Nat}{e:Event}(k:s7 Z l M d e):s7 Z l M' d e:=by grind[s7]
theorem nQ.more{M M':c5}(h:∀b,M b->M' b):∀{es:ubm}{d:Nat},nQ Z l M d es->nQ Z l M' d es
 | [],_,_=>trivial
 | _::_,_,k=>⟨s7.more h k.1,nQ.more h k.2⟩
def BK{M M':c5}(h:∀b,M b->M' b)(w w1:aH):∀b,grown M w w1 b->grown M' w w1 b:=λ_ k=>k.imp (h _) id
def kZ.more{M M':c5}(h:∀b,M b->M' b){w w1:aH}(k:kZ Z M w w1):kZ Z M' w w1:=
 ⟨λb c d a=>k.kept b c AN a,k.size,k.os,k.output,k.tape⟩
theorem Says.more{M M':c5}(h:∀b,M b->M' b){l1:Z.Lo}(k:Says Z l l1 M es):Says Z l l1 M' es:=by
 rcases k with⟨e,d,c,a⟩|k|k|k
 .exact .inl ⟨e,d,c,nQ.more h a⟩
 .exact .inr (.inl k)
 .exact .inr (.inr (.inl k))
 .exact .inr (.inr (.inr k))
theorem bd.more(n:∀m l g w M M',(∀b,M b->M' b)->Stop m l ⟨g,w,M⟩->Stop m l ⟨g,w,M'⟩){X:aV}(h:bd Z Q Stop m l γ X):∀{M':c5},(∀b,X.mine b->M' b)->bd Z Q Stop m l γ ⟨X.g,X.w,M'⟩:=by
 induction h with
 |stop h=>exact λd=>.stop (n _ _ _ _ _ _ d h)
 |@step m l γ X hs ch ok hq u t v s r p y=>
  intro M' d;have j:∀{w' f},dI Z l f ⟨X.g,X.w,M'⟩ w'->dI Z l f X w':=λa=>⟨⟨λb x=>a.rely.heap b AN,a.rely.size,a.rely.env⟩,a.mt,a.sees,a.later,a.output,a.tape⟩;refine .step hs ch (λw' f i a=>?_) (λw' f g1 w1 es i a e hrun k=>s w' f g1 w1 es i (j a) e hrun k (BK d w' w1)) (λw' f g1 w1 es i a e k=>r w' f g1 w1 es i (j a) e k (BK d w' w1)) (λw' f g1 c w1 es i a e=>p w' f g1 c w1 es i (j a) e (BK d w' w1)) AN;rcases ok w' f i (j a)with⟨g1,w1,es,e,q⟩|⟨g1,w1,es,e,q,o⟩|h|⟨em,g1,c,w1,es,e,q⟩
  .exact .inl ⟨g1,w1,es,e,q.run,kZ.more d q.keep,q.sh,nQ.more (BK d w' w1) q.evs,q.low⟩
  .exact .inr (.inl ⟨g1,w1,es,e,⟨q.run,q.Ld,kZ.more d q.keep,q.mt,q.zP,Says.more (BK d w' w1) q.says,q.HM⟩,λh=>⟨(o h).1,n _ _ _ _ _ _ (BK d w' w1) (o h).2⟩⟩)
  .exact .inr (.inr (.inl h))
  .exact .inr (.inr (.inr ⟨em,g1,c,w1,es,e,⟨q.run,q.Wz,kZ.more d q.keep,q.mt,q.a4,q.zP,nQ.more (BK d w' w1) q.evs,q.deaf,q.tok,q.past,q.HM,q.stays⟩⟩))
def b8(mine:c5)(bs:uat)(b:Nat):Prop:=mine b\/b∈bs.map (·.1)
structure af(Z:eV)(mine:c5)(w0:aH)(bs:uat)(w:aH):Prop where
 rw:ai Z mine w0 w
 bI:∀x∈bs,w.heap[x.1]?=some x.2
 lt:∀b,Z.K b\/mine b\/Z.g7 b->b<w.heap.size
 eK:∀b,Z.K b\/b8 mine bs b->¬Z.g7 b
 r7:∀b∈bs.map (·.1),¬(Z.K b\/mine b)
 gF:(bs.map (·.1)).Nodup
 r8:∀b,mine b->¬Z.K b
variable{mine:c5}{w0:aH}{bs:uat}{w w1:aH}
def af.on(h:af Z mine w0 bs w)(r:ai Z (b8 mine bs) w w1):af Z mine w0 bs w1:=
 ⟨h.rw.trans ⟨λb a=>r.heap b (a.imp id .inl),r.size,r.later,r.output,r.tape⟩,λx c=>(r.heap x.1 (.inr (.inr AN))).trans (h.bI x c),λb a=>van (h.lt b a) r.size,h.eK,h.r7,h.gF,h.r8⟩
def fU{X:Z.aM->Prop}{n:Nat}(hs:g.status=.running)(hF:af Z mine w0 bs w)(h:∀b,ai Z (b8 mine bs) w b->∀e,X e->∀a d,Z.dH l e d->dI Z l d ⟨g,b,b8 mine bs⟩ a->af Z mine w0 bs a->Then Q Stop m l d ⟨g,b,b8 mine bs⟩ a):
 Goes Q m (ai Z (b8 mine bs)) Go.ConcR.DC0 (λg w=>g.status=.running/\∀i,X i->bd Z Q Stop m l i ⟨g,w,b8 mine bs⟩) n g w:=
 vaf λb c=>⟨hs,λe j=>bd.mk hs λa d k f=>h b c e j a d k f ((hF.on c).on (dI.rw f))⟩
def af.start(hK:∀b,Z.K b\/mine b\/Z.g7 b->b<w.heap.size)(c:∀b,Z.K b\/mine b->¬Z.g7 b)(hd:∀b,mine b->¬Z.K b):af Z mine w [] w:=
 ⟨.refl _ _ _,Ab,hK,λb a=>c b (a.imp id (λx=>x.elim id Ab)),Ab,Ab,hd⟩
def b8.cons{b0:Nat}{o:Obj}:(λb=>b8 mine bs b\/b=b0)=b8 mine ((b0,o)::bs):=by grind[b8]
def P6(M:c5)(w:aH)(o:Obj):grown M w (w.alloc o)=λb=>M b\/b=w.heap.size:=by grind[grown,World.alloc]
def BL{o:Obj}{b:Nat}(h:b<w.heap.size):(w.alloc o).heap[b]?=w.heap[b]?:=by show(w.heap.push o)[b]?=_;grind
def ajW{o:Obj}:(w.alloc o).heap[w.heap.size]?=some o:=by show(w.heap.push o)[w.heap.size]?=_;grind
def ajX{o:Obj}:(w.alloc o).heap.size=w.heap.size+1:=by simp_all
def af.P7(h:af Z mine w0 bs w){b:Nat}(c:b∈bs.map (·.1)):b<w.heap.size:=by obtain⟨x,a,rfl⟩:=vbz.1 c;have:=h.bI x a;grind
theorem af.alloc(h:af Z mine w0 bs w)(d:∀b,Z.K b->¬Z.g7 b)(o:Obj):af Z mine w0 ((w.heap.size,o)::bs) (w.alloc o):=by
 have hn:∀b,Z.K b\/mine b\/Z.g7 b->b≠w.heap.size:=λb a=>Nat.ne_of_lt (h.lt b a);refine⟨h.rw.trans ⟨λb a=>BL (h.lt b AN),BB,.refl _,U,U⟩,λx c=>?_,λb a=>by rw[ajX];have:=h.lt b a;omega,λb a hs=>?_,λb a=>?_,?_,h.r8⟩
 .rcases vbc.1 c with rfl|c
  .exact ajW
  .rw[BL (h.P7 AN)];exact h.bI x c
 .rcases a with a|a|a
  .grind
  .exact h.eK b (.inr (.inl a)) hs
  .rcases vbc.1 a with rfl|a
   .grind
   .exact h.eK b (.inr (.inr a)) hs
 .rcases vbc.1 a with rfl|a
  .grind
  .exact h.r7 b a
 .simp only[vdc,List.nodup_cons];exact⟨λe=>Nat.lt_irrefl _ (h.P7 e),h.gF⟩
def tg(e:∀l g g1,¬Z.ox l g g1)(f:∀b,Z.K b->¬Z.g7 b)(i:Z.past l=false){o:Obj}(hk:af Z mine w0 bs w)(hs:stepG Q m g w=.go g1 (w.alloc o) es)(hrun:g1.status=.running)(j:es=#[]){d:aH}(h:af Z mine w0 ((w.heap.size,o)::bs) (w.alloc o)->bd Z Q Stop m l γ ⟨g1,w.alloc o,b8 mine ((w.heap.size,o)::bs)⟩):Then (Z:=Z) Q Stop m l γ ⟨g,d,b8 mine bs⟩ w:=by
 have n:=hk.alloc f o;have hg:grown (b8 mine bs) w (w.alloc o)=b8 mine ((w.heap.size,o)::bs):=by rw[P6];exact b8.cons
 refine P4 e i hs hrun (λb a _=>BL a) BB U U U ?_ AN ?_
 .intro b a k;have c:grown (b8 mine bs) w (w.alloc o) b:=a;rw[hg]at c;exact n.eK b (.inr c) k
 grind
def r9(c:∀l g g1,¬Z.ox l g g1)(d:Z.past l=false){M:c5}(i:∀b,M b->¬Z.g7 b)(hs:stepG Q m g w=.go g1 w es)(hrun:g1.status=.running)(f:∀e∈es,E2 Z M e){a:aH}(h:bd Z Q Stop m l γ ⟨g1,w,M⟩):Then (Z:=Z) Q Stop m l γ ⟨g,a,M⟩ w:=by
 have hg:grown M w w=M:=j9 U;refine P4 c d hs hrun AN IB U U U (λb k=>i b ?_) (λe j=>?_) ?_
 .simp_all
 .grind
 grind
def af.write(h:af Z mine w0 bs w){b:Nat}{bs':uat}(i:b∈bs.map (·.1))(c:bs'.map (·.1)=bs.map (·.1))(f:∀x∈bs',w1.heap[x.1]?=some x.2)(a:∀k,k≠b->w1.heap[k]?=w.heap[k]?)(hsz:w1.heap.size=w.heap.size)(d:w1.os=w.os)(g:w1.output=w.output)(ht:w1.tape=w.tape):af Z mine w0 bs' w1:=by
 have j:b8 mine bs'=b8 mine bs:=by grind[b8]
 refine⟨h.rw.trans ⟨λk hk=>a k λe=>h.r7 b i (e▸hk),AN,by rw[d];exact .refl _,g,ht⟩,f,λk hk=>by rw[hsz];exact h.lt k hk,by rw[j];exact h.eK,by rw[c];exact h.r7,by rw[c];exact h.gF,h.r8⟩
def ajY(n:∀l g g1,¬Z.ox l g g1)(p:Z.past l=false)(hk:af Z mine w0 bs w)(hs:stepG Q m g w=.go g1 w1 es)(hrun:g1.status=.running){b:Nat}{bs':uat}(f:b∈bs.map (·.1))(q:bs'.map (·.1)=bs.map (·.1))(o:∀x∈bs',w1.heap[x.1]?=some x.2)(a:∀k,k≠b->w1.heap[k]?=w.heap[k]?)(hsz:w1.heap.size=w.heap.size)(c:w1.os=w.os)(d:w1.output=w.output)(ht:w1.tape=w.tape)(r:∀e∈es,E2 Z (b8 mine bs) e){j:aH}(h:af Z mine w0 bs' w1->bd Z Q Stop m l γ ⟨g1,w1,b8 mine bs'⟩):Then (Z:=Z) Q Stop m l γ ⟨g,j,b8 mine bs⟩ w:=by
 have t:=hk.write f q o a hsz c d ht;have hg:grown (b8 mine bs) w w1=b8 mine bs:=j9 hsz;have u:b8 mine bs'=b8 mine bs:=by grind[b8]
 refine P4 n p hs hrun (λk _ i=>a k λe=>i (.inr (e▸f))) AN c d ht (λk i=>hk.eK k (.inr ?_)) (λe s=>?_) ?_
 .simp_all
 .grind
 grind
end
end
end eW
namespace bM
open Conc RowKit Conc.Lib ConcR.Gen ConcM av bn ae
def FI:Code->Option Code
 | .block _ (.seq (.seq _ (.cond _ x _)) _)=>some x
 | _=>none
def tN(A:e5)(Stop:Bool->ae.Lo A.ao->aV->Prop)(m:Bool)(mine:c5)(aY:Frame)(aF:Act)(az:eQ)(aI:Nat)(aK:uag)(aG:uab)(csZ:fA)(l:ae.Lo A.ao)(γ:ae.aM A.aN)(cA:Int)(sv aw:Bool)(it old:Int)(w:aH):Prop:=
 jG [.code ((ed 8 ((dA (f118.body.getD .skip)).getD .skip)).getD .skip),.code ((ed 11 ((dA (f118.body.getD .skip)).getD .skip)).getD .skip),.inBlock 1,.inLoop ((dA (f118.body.getD .skip)).getD .skip),.inBlock 0,.code ((kR (f118.body.getD .skip)).getD .skip)] A Stop m mine aY aF az aI aK aG csZ l γ cA sv aw it old w
def wQ(A:e5)(Stop:Bool->ae.Lo A.ao->aV->Prop)(m:Bool)(mine:c5)(aY:Frame)(aF:Act)(az:eQ)(aI:Nat)(aK:uag)(aG:uab)(csZ:fA)(l:ae.Lo A.ao)(γ:ae.aM A.aN)(cA:Int)(sv aw:Bool)(it old:Int)(w:aH):Prop:=
 jG [.code ((FI ((dA (f118.body.getD .skip)).getD .skip)).getD .skip),.code ((ed 11 ((dA (f118.body.getD .skip)).getD .skip)).getD .skip),.inBlock 1,.inLoop ((dA (f118.body.getD .skip)).getD .skip),.inBlock 0,.code ((kR (f118.body.getD .skip)).getD .skip)] A Stop m mine aY aF az aI aK aG csZ l γ cA sv aw it old w
variable{cA it old:Int}{w:aH}
section
variable{A:e5}{Stop:Bool->ae.Lo A.ao->aV->Prop}{m:Bool}{mine:c5}
variable{aY:Frame}{aF:Act}{az:eQ}{aI:Nat}{aK:uag}{aG:uab}{csZ:fA}
def anv(G:A.Good){l:ae.Lo A.ao}{γ:ae.aM A.aN}{sv aw:Bool}(g:(bits .and .i32 old 5==1)=false)(c:∀w' d,(ak A).dH l γ d->ai (ak A) mine w w'->Am A Stop m mine aY aF az aI aK aG csZ l d cA sv aw it old w'):
 pJ A Stop m mine aY aF az aI aK aG csZ l γ cA sv aw it old w:=by
 unfold pJ jG;intros
 unfold Am jG at c;have hF:=ai.refl (ak A) mine w;simp only[f118,vah,dA,kR,ed,Nat.reduceBEq,vai,↓reduceIte]at c⊢;refine a8 G ?_;u_c stepG_block ai.trans hF
 u_c vdu ai.trans hF
 u_c vdu ai.trans hF
 repeat w_but "code.seq" ai.trans
 exact vaf (λa b=>⟨U,λf e=>c a f e (ai.trans hF b) ..⟩)
def anw(G:A.Good){l:ae.Lo A.ao}{γ:ae.aM A.aN}{sv aw:Bool}(s:bits .and .i32 old 5=1)(g:∀w' f,(ak A).dH l γ f->ai (ak A) mine w w'->Am A Stop m mine aY aF az aI aK aG csZ l f cA sv aw it old w')(i:it<4->∀w' f,(ak A).dH l γ f->ai (ak A) mine w w'->wQ A Stop m mine aY aF az aI aK aG csZ l f cA sv aw it old w'):
 pJ A Stop m mine aY aF az aI aK aG csZ l γ cA sv aw it old w:=by
 unfold pJ jG;intros
 unfold Am jG at g;unfold wQ jG at i;have hF:=ai.refl (ak A) mine w;simp only[f118,vah,dA,kR,ed,FI,Nat.reduceBEq,vai,↓reduceIte]at g i⊢;refine a8 G ?_;repeat w_go ai.trans
 refine dO U hF λb a d j c r o p hF=>?_;have h:=(df G).trans _ _ _ _ j o;by_cases q:it<4
 .refine lv (stepG_canSpin_ask U U Ad U func135 YR YS YT YU (k:=.i64) (n:=it) BF q) U U (.refl _) U U ?_;replace hF:=ai.trans hF (⟨λ_ _=>U,vad _,.refl _,U,U⟩:ai (ak A) mine c c.asked);clear p o j a;cases c.spins with
  |false=>
   refine a8 G ?_;walk_nrm
   repeat w_but "code.seq" ai.trans
   exact vaf (λb a=>⟨U,λd e=>g b d ((df G).trans _ _ _ _ h e) (ai.trans hF a) ..⟩)
  |true=>
   refine a8 G ?_;walk_nrm
   repeat w_but "code.seq" ai.trans
   exact vaf (λb a=>⟨U,λd e=>i q b d ((df G).trans _ _ _ _ h e) (ai.trans hF a) ..⟩)
 .refine lv (stepG_canSpin_no U U Ad U func135 YR YS YT YU (k:=.i64) (n:=it) BF AY) U U (.refl _) U U ?_;clear p o j a;refine a8 G ?_;walk_nrm
  repeat w_but "code.seq" ai.trans
  exact vaf (λb a=>⟨U,λd e=>g b d ((df G).trans _ _ _ _ h e) (ai.trans hF a) ..⟩)
def ZD(G:A.Good){l:ae.Lo A.ao}{γ:ae.aM A.aN}{sv aw:Bool}(r:0<=it)(q:it<4)(h:∀w' e,(e=γ\/e.a4<γ.a4)->ai (ak A) mine w w'->g8 (ak A) l e->pJ A Stop m mine aY aF az aI aK aG csZ l e cA sv aw (it+1) (e.mu.word:Int) w'):
 tN A Stop m mine aY aF az aI aK aG csZ l γ cA sv aw it old w:=by
 unfold tN jG;intros
 unfold pJ jG at h;have hF:=ai.refl (ak A) mine w;have t:IntKind.wrap .i64 (it+1)=it+1:=De;simp only[f118,vah,dA,kR,ed,Nat.reduceBEq,vai,↓reduceIte]at h⊢;refine a8 G ?_;repeat w_go ai.trans
 refine dO U hF λb a k d j s f c hF=>?_;have g:=(df G).trans _ _ _ _ d f;refine lv (stepG_entry_pure (.tuple #[]) U U Ad U func136 amr ams amt amu) U U (.refl _) U U ?_;clear c f d a;refine a8 G ?_;walk_nrm
 repeat w_go ai.trans
 refine dO U hF λb a k d i p f c hF=>?_;have n:=(df G).less _ _ _ ((df G).trans _ _ _ _ g ((df G).trans _ _ _ _ d f));have o:=c.sees;refine lv (Al U U Ad U U (lu c.mt.1) IQ) U U (.refl _) U U ?_;clear c f d a;refine a8 G ?_;walk_nrm
 repeat w_nl ai.trans
 u_c stepG_inLoop ai.trans hF
 exact vaf (λb a=>⟨U,λk g=>(h b p n (ai.trans hF a) o ..).kG (df G) g⟩)
end
end bM
namespace cv
open RowKit av bB
structure gZ where
 e:TypeId
 v:Value
 xs:List Value
structure fh(B:Nat)(W:aH)(L:List gZ):Prop where
 own:∀i(h:i<L.length),W.ownsRow B L[i].e 1 L[i].v L[i].xs.length L[i].xs
 apart:∀i j(hi:i<L.length)(hj:j<L.length) g,i≠j->L[i].v.ownBlock=some g->L[j].v.ownBlock≠some g
def ry(L:List gZ)(b:Nat):Prop:=∀i(h:i<L.length),L[i].v.ownBlock≠some b
variable{B g i:Nat}{W:aH}{L:List gZ}
theorem fh.lt(h:fh B W L)(hi:i<L.length)(hg:L[i].v.ownBlock=some g):B<=g/\g<W.heap.size:=(h.own i hi).lt g hg
variable{b:Nat}
def fh.AI(h:fh B W L)(a:W.heap.size<=b\/b<B):ry L b:=λi hi hg=>by have:=h.lt hi hg;omega
variable{W':aH}
def fh.kept(h:fh B W L)(hk:∀g,¬ry L g->W'.heap[g]?=W.heap[g]?):fh B W' L:=
 ⟨λi hi=>Gs (h.own i hi) λg hg=>hk g λa=>a i hi hg,h.apart⟩
variable{cap:Nat}{xs:uam}
def fh.push(h:fh B W L)(hi:i<L.length)(q:W'.ownsRow B L[i].e 1 (.S g 0 xs.length cap) xs.length xs)(hg:W.grownBy W' L[i].v.ownBlock)(d:L[i].v.ownBlock=some g\/g=W.heap.size):
 fh B W' (L.set i ⟨L[i].e,.S g 0 xs.length cap,xs⟩):=by
 have n:∀j(a:j<L.length),j≠i->L[j].v.ownBlock≠some g:=λj a b l=>by
  rcases d with d|d
  .exact h.apart i j hi a g (Ne.symm b) d l
  .have:=(h.lt a l).2;omega
 refine⟨λj a=>?_,λj k a hk g' b c=>?_⟩
 .rw[vdz]at a;by_cases e:i=j
  .grind
  .simp only[List.getElem_set,e,vcj];exact Gs (h.own j a) λg' f=>hg.block g' (h.lt a f).2 λp=>h.apart i j hi a g' e p.symm f
 .rw[vdz]at a hk;simp only[List.getElem_set]at c⊢;by_cases o:i=j
  .simp_all[Value.ownBlock,Ne.symm]
  .simp[o]at c;by_cases m:i=k
   .simp only[m,vbx,Value.ownBlock];grind
   .simp only[m,vcj];exact h.apart j k a hk g' b c
theorem arB(h:fh B W L)(hi:i<L.length){n:Nat}{e:uaa}(c:L[i].v.ownBlock=some g\/g=W.heap.size)(l:b<W.heap.size)(f:ry L b):ry (L.set i ⟨e,.S g 0 n cap,xs⟩) b:=by
 intro j d a;rw[vdz]at d;simp[List.getElem_set]at a;by_cases k:i=j
 .simp[k,Value.ownBlock]at a;subst a;rcases c with c|c
  .exact f i hi c
  .omega
 .simp[k]at a;exact f j d a
structure qM(L:List gZ)(w w':aH):Prop where
 size:w.heap.size<=w'.heap.size
 os:w'.os=w.os
 tape:w'.tape=w.tape
 output:w'.output=w.output
 block:∀b,b<w.heap.size->ry L b->w'.heap[b]?=w.heap[b]?
@[simp] theorem aCL:cS true 23:=cN (bo (upd:=true) func23 AT) AT
theorem fh.at(h:fh B W L){r:gZ}(a:L[i]?=some r):W.ownsRow B r.e 1 r.v r.xs.length r.xs:=by obtain⟨hi,rfl⟩:=vab.1 a;exact h.own i hi
theorem fh.alloc(h:fh B W L)(o:Obj):fh B (W.alloc o) L:=h.kept λg hg=>Below.heap_alloc _ _ _ (by
 apply vax;intro a;exact hg (h.AI AN))
def fh.set(h:fh B W L)(a:ry L b)(o:Nat)(v:Value):fh B (W.setCell ⟨b,o,none⟩ v) L:=h.kept λg hg=>vav _ _ _ _ AN
def fh.Tn(h:fh B W L){e:uaa}{v:Value}(c:L[i]?=some ⟨e,v,xs⟩){x:Value}(j:W'.ownsRow B e 1 (.S g 0 (xs.length+1) cap) (xs.length+1) (xs++[x]))(hg:W.grownBy W' v.ownBlock)(l:v.ownBlock=some g\/g=W.heap.size):
 fh B W' (L.set i ⟨e,.S g 0 (xs.length+1) cap,xs++[x]⟩)/\∀b,b<W.heap.size->ry L b->ry (L.set i ⟨e,.S g 0 (xs.length+1) cap,xs++[x]⟩) b:=by
 obtain⟨hi,a⟩:=vab.1 c;have f:L[i].e=e:=by rw[a]
 have k:L[i].v=v:=by rw[a]
 have d:(xs++[x]).length=xs.length+1:=Ab;have:=h.push hi (xs:=xs++[x]) (by rw[d,f];exact j) AN AN;grind[arB]
def fh.below(h:fh B W L)(a:Below W.heap.size W.drew W'):fh B W' L:=h.kept λg hg=>a.block g (by
 apply vax;intro b;exact hg (h.AI AN))
variable{w:aH}{K:uak}{Q:uap}{ats:uau}
def arC{P:ck}{ops:eQ}{o:Oper}{a:Act}{F:Prop}(k:o.guard=none){f:ual}{fn:Func}{args:uba}(b:o.op=.call {callee:=.value (.func f),args,argTypes:=ats})(g:P.funcs[f]?=some fn)(c:(fn.name== "runtime.NumGoroutine")=false)(i:fn.body.isNone=false){vs:dC}(hv:args.map a.eval=vs)(h:Calls P f vs w λ| .returned v,w'=>K (a.put o.dst v) w'| _,_=>False):if Region.wanted o (yielded ops a.tmps)=true then Oper.wp P o a w K Q else F:=by
 subst hv;have d:Region.wanted o (yielded ops a.tmps)=true:=by grind[Region.wanted]
 rw[vdi d];unfold Oper.wp;rw[Conc.run_call_body b g c i];refine h.mono λe w' j=>?_;grind
def arD{ops:eQ}{o:Oper}{a:Act}{F:Prop}(c:o.guard=none){x:uaq}(b:o.op=.call {callee:=.value (.func 31),args:=#[x],argTypes:=ats}){s:ByteArray}(hv:a.eval x=.string s)(ht:s.size<=1000000)(h:∀w',cC w w'->K (a.put o.dst (.string s)) w'):if Region.wanted o (yielded ops a.tmps)=true then Oper.wp (aa prog true) o a w K Q else F:=
 arC c b (bo (upd:=true) func31 AT) AU U (vs:=#[.string s]) AN ((Tm s w ht).mono AN)
variable{j:Nat}
def iL(h:i≠j)(x:gZ):(L.set i x)[j]?=L[j]?:=by simp[h]
variable{cs:dC}
def Nu{c:Nat}{T:uaa}(h:ag w c cs T)(a:c≠b)(o:Nat)(v:Value):ag (w.setCell ⟨b,o,none⟩ v) c cs T:=by grind[ag,Below.heap_setCell]
def qM.set{w':aH}(h:qM L w w')(o:Nat)(v:Value)(c:w.heap.size<=b):qM L w (w'.setCell ⟨b,o,none⟩ v):=
 ⟨by simp[World.setCell];exact h.size,h.os,h.tape,h.output,λk hk a=>(vav _ _ _ _ AN).trans (h.block k hk a)⟩
def qM.KJ{w1 w2:aH}(h:qM L w w1)(hs:w1.heap.size<=w2.heap.size)(e:w2.os=w1.os)(ht:w2.tape=w1.tape)(d:w2.output=w1.output)(f:∀b,b<w.heap.size->ry L b->w2.heap[b]?=w1.heap[b]?):qM L w w2:=
 ⟨vac h.size hs,e.trans h.os,ht.trans h.tape,d.trans h.output,λb a c=>(f b a c).trans (h.block b a c)⟩
def arE(h:fh B w L)(hB:B<=w.heap.size){k:Nat}{b9 vs bt:Value}{is l ns:uam}(h0:L[k]?=some ⟨2,b9,is⟩)(h1:L[k+1]?=some ⟨9,vs,l⟩)(h2:L[k+2]?=some ⟨4,bt,ns⟩)(kind cY:Int)(d:dM)(ht:d.text.size<=1000000)(hl:is.length<=1000/\l.length<=1000/\ns.length<=1000):
 Calls (aa prog true) 23 #[.agg #[.I kind,.I cY,b9,vs,bt],jZ d] w λe w'=>(∃g c f a,(kind≠3/\e=.returned (.agg #[.I kind,.I cY,.S g 0 (is.length+1) c,vs,.S f 0 (ns.length+1) a])/\
  fh B w' ((L.set (k+2) ⟨4,.S f 0 (ns.length+1) a,ns++[.bool d.dN]⟩).set k ⟨2,.S g 0 (is.length+1) c,is++[.I d.num]⟩))\/
  (kind=3/\e=.returned (.agg #[.I kind,.I cY,b9,.S g 0 (l.length+1) c,.S f 0 (ns.length+1) a])/\
   fh B w' ((L.set (k+2) ⟨4,.S f 0 (ns.length+1) a,ns++[.bool d.dN]⟩).set (k+1) ⟨9,.S g 0 (l.length+1) c,l++[.string d.text]⟩)))/\qM L w w':=by
 obtain⟨sa,mB,e0⟩:=qq (show w.ownsRow B 9 1 vs l.length l from h.at h1);subst e0;obtain⟨t,q,e1⟩:=qq (show w.ownsRow B 2 1 b9 is.length is from h.at h0);obtain⟨an,A,z⟩:=qq (show w.ownsRow B 4 1 bt ns.length ns from h.at h2);subst e1;subst z;have DY:Hid _:=h0;have JH:Hid _:=h1;have l8:Hid _:=h2;have D:Hid _:=hl;have Q:Hid (fh B w L):=h;clear h0 h1 h2 hl h;have b2:=(((ag.new w #[.I kind,.I cY,.slice t is.length q,.slice sa l.length mB,.slice an ns.length A] 30).alloc (.cells #[.bool d.dN,.I d.num,.I d.cY,.string d.text] 84)).alloc (.cells #[.I 0,.I 0,.N,.N,.N] 30)).alloc (.cells #[.bool d.dN] 4);have bH:=((ag.new (w.alloc (.cells #[.I kind,.I cY,.slice t is.length q,.slice sa l.length mB,.slice an ns.length A] 30)) #[.bool d.dN,.I d.num,.I d.cY,.string d.text] 84).alloc (.cells #[.I 0,.I 0,.N,.N,.N] 30)).alloc (.cells #[.bool d.dN] 4);have cH:=(ag.new ((w.alloc (.cells #[.I kind,.I cY,.slice t is.length q,.slice sa l.length mB,.slice an ns.length A] 30)).alloc (.cells #[.bool d.dN,.I d.num,.I d.cY,.string d.text] 84)) #[.I 0,.I 0,.N,.N,.N] 30).alloc (.cells #[.bool d.dN] 4);have cr:=ag.new (((w.alloc (.cells #[.I kind,.I cY,.slice t is.length q,.slice sa l.length mB,.slice an ns.length A] 30)).alloc (.cells #[.bool d.dN,.I d.num,.I d.cY,.string d.text] 84)).alloc (.cells #[.I 0,.I 0,.N,.N,.N] 30)) #[.bool d.dN] 4;have To:=(((Q.out.alloc (.cells #[.I kind,.I cY,.slice t is.length q,.slice sa l.length mB,.slice an ns.length A] 30)).alloc (.cells #[.bool d.dN,.I d.num,.I d.cY,.string d.text] 84)).alloc (.cells #[.I 0,.I 0,.N,.N,.N] 30)).alloc (.cells #[.bool d.dN] 4);simp at bH cH cr;have vw:Hid _:=b2;have DK:Hid _:=bH;have DL:Hid _:=cH;have E:Hid _:=Nj cr;have JG:Hid _:=To;have C:Hid _:=To.at l8.out;have r:Hid (∀u∈([.bool d.dN]:uam),u.oneCell'=true):=F0;have ri:Hid (B<=w.heap.size):=hB;clear b2 bH cH cr To hB;go_enter (bo (upd:=true) func23 AT),ntmps23
 go_wp2_with (at_builtin;apply qr)
 unfold hJ;refine Iz LG _ rfl _ _ rfl B (.slice an ns.length A) ns.length ns rfl C.out (w.heap.size+1+1+1) 1 1 _ rfl rfl E.out r.out AX D8 D8 (by have:=ri.out;simp;omega) (w.heap.size+1+1+1+1) Ab ?_;intro f a gg Tp n KI Z;have dE:∀i g,i<3->(Value.slice an ns.length A).ownBlock=some g->w.heap.size+i≠g:=λi g _ hg=>by obtain⟨hi,y⟩:=vab.1 l8.out;have:=(Q.out.lt hi (by rw[y];exact hg)).2;omega
 obtain⟨Gw,fQ⟩:=fh.Tn JG.out l8.out Tp n BB;have cg:=(ag.grown vw.out n (λg hg=>dE 0 g AX hg)).set 4 (.S f 0 (ns.length+1) a);have du:=ag.grown DK.out n BB;have c4:=ag.grown DL.out n (λg hg=>dE 2 g AX hg);have O:∀i,i<3->ry (L.set (k+2) ⟨4,.S f 0 (ns.length+1) a,ns++[.bool d.dN]⟩) (w.heap.size+i):=λi hi=>fQ _ BC (Q.out.AI AN);have Nv:qM L w gg:=⟨by have:=n.size;simp at this;omega,n.os,n.tape,n.output,λb hb V=>(n.block b BC (λe=>by
  obtain⟨hi,y⟩:=vab.1 l8.out;exact V _ hi AN)).trans (by
   grind[Below.heap_alloc])⟩
 obtain⟨J,H,I⟩:=(ag.grown vw.out n (λg hg=>dE 0 g AX hg)).all;by_cases kM:kind=3
 .subst kM;go_upto_region 3 with fail
  have F:=Gw.set (O 0 AX) 4 (.S f 0 (ns.length+1) a);have K:=Nu du (b:=w.heap.size) AY 4 (.S f 0 (ns.length+1) a);have Y:=Nu c4 (b:=w.heap.size) AY 4 (.S f 0 (ns.length+1) a);have JI:=Nv.set 4 (.S f 0 (ns.length+1) a) IB;simp at F;generalize gg.setCell ⟨w.heap.size,4,none⟩ (.S f 0 (ns.length+1) a)=W at *;simp at cg;clear J H I Gw du c4 Nv Tp n KI Z JG C E r;have N:(L.set (k+2) ⟨4,.S f 0 (ns.length+1) a,ns++[.bool d.dN]⟩)[k+1]?=some ⟨9,.slice sa l.length mB,l⟩:=(iL AY _).trans JH.out;have M:Hid _:=cg;have Lk:Hid _:=K;have JJ:Hid _:=Y;have o:Hid _:=JI;have Lc:Hid _:=F;have P:Hid _:=N;have Tq:Hid _:=O;have r:Hid (∀u∈([.string d.text]:uam),u.oneCell'=true):=F0;obtain⟨J,H,I⟩:=cg.all;obtain⟨jM,mI,T⟩:=K.all;clear N cg K Y JI O F;have U:∀i g,i<3->(Value.slice sa l.length mB).ownBlock=some g->w.heap.size+i≠g:=λi g wE hg=>by obtain⟨hi,y⟩:=vab.1 JH.out;have:=(Q.out.lt hi (by rw[y];exact hg)).2;omega
  have HOW:Hid _:=U;clear U;go_region_law
   (first|(refine arD Av Av (s:=d.text) Av ht ?_;intro vA m;obtain⟨c9,dF,eB⟩:=(ag.call (ag.drew M.out) m).all)|(refine alA apm _ Av _ _ Av B (.slice sa l.length mB) l.length l Av ((fh.alloc (fh.below Lc.out m) _).at P.out) vA.heap.size 1 1 [.string d.text] Av rfl BB r.out AY D8 D8 (by have:=ri.out;have:=o.out.size;have:=m.size;simp at this⊢;omega) (vA.heap.size+1) Ab ?_;intro g c zh JK j Tr Ts;have z:=ag.grown ((ag.call (ag.drew M.out) m).alloc _) j (λg hg=>HOW.out 0 g AX hg);have e3:=ag.grown ((ag.call (ag.drew Lk.out) m).alloc _) j (λg hg=>HOW.out 1 g AX hg);obtain⟨u1,u2,u3⟩:=z.all))
  all_goals
   obtain⟨JL,R⟩:=fh.Tn (fh.alloc (fh.below Lc.out m) _) P.out JK j BB;have X:=ag.grown ((ag.call (ag.drew JJ.out) m).alloc _) j (λg hg=>HOW.out 2 g AX hg);have JM:qM L w zh:=o.out.KJ (by have s1:=j.size;have s2:=m.size;simp at s1 s2;omega) (j.os.trans m.os) (j.tape.trans m.tape) (j.output.trans m.output) (λb hb V=>(j.block b (by have:=o.out.size;have:=m.size;simp at this⊢;omega) (λe=>by
    obtain⟨hi,y⟩:=vab.1 JH.out;exact V _ hi AN)).trans ((Below.heap_alloc _ _ _ AN).trans (m.block b (by have:=o.out.size;simp;omega))))
   obtain⟨t1,t2,t3⟩:=X.all;have je:Hid _:=JM;have Tt:Hid _:=JL;have JN:Hid (∀i,i<3->ry _ (w.heap.size+i)):=λi hi=>R _ (by have:=o.out.size;have:=T;have:=m.size;simp at this⊢;omega) (Tq.out i hi);clear z e3 X JM JL R J H I jM mI T c9 dF eB JK j Tr Ts P M Lk JJ o r m;go_wp2
   have S:=JN.out 0 AX;have p:=JN.out 2 AX;simp at S;exact vbe (v:=.agg #[.I 3,.I cY,.slice t is.length q,.S g 0 (l.length+1) c,.S f 0 (ns.length+1) a]) (by simp[results,results23,go_sem,t1]) rfl
    ⟨⟨g,c,f,a,rfl,(((((Tt.out.set S _ _).set p _ _).set p _ _).set p _ _).set p _ _).set p _ _⟩,(((((je.out.set _ _ AN).set _ _ AY).set _ _ AY).set _ _ AY).set _ _ AY).set _ _ AY⟩
 .have jE:(kind==3)=false:=by grind
  have arF:Hid _:=kM;clear kM;go_upto_region 4 with fail
  have F:=Gw.set (O 0 AX) 4 (.S f 0 (ns.length+1) a);have K:=Nu du (b:=w.heap.size) AY 4 (.S f 0 (ns.length+1) a);have Y:=Nu c4 (b:=w.heap.size) AY 4 (.S f 0 (ns.length+1) a);have JI:=Nv.set 4 (.S f 0 (ns.length+1) a) IB;simp at F;generalize gg.setCell ⟨w.heap.size,4,none⟩ (.S f 0 (ns.length+1) a)=W at *;simp at cg;clear J H I Gw du c4 Nv Tp n KI Z JG C E r;have N:(L.set (k+2) ⟨4,.S f 0 (ns.length+1) a,ns++[.bool d.dN]⟩)[k]?=some ⟨2,.slice t is.length q,is⟩:=(iL AY _).trans DY.out;have Tu:=F.alloc (.cells #[.I d.num] 2);have C:Hid _:=Tu.at N;have E:Hid _:=Nj (ag.new W #[.I d.num] 2);have r:Hid (∀u∈([.I d.num]:uam),u.oneCell'=true):=F0;have M:Hid _:=cg.alloc (.cells #[.I d.num] 2);have JJ:Hid _:=Y.alloc (.cells #[.I d.num] 2);have o:Hid _:=JI;have K9:Hid _:=Tu;have P:Hid _:=N;have Tq:Hid _:=O;have arG:Hid (B<=(W.alloc (.cells #[.I d.num] 2)).heap.size):=by grind[Hid]
  obtain⟨J,H,I⟩:=cg.all;obtain⟨jM,mI,T⟩:=K.all;clear Tu N cg K Y JI O;go_wp2_with (at_builtin;apply qr)
  unfold hJ;refine Iz Jd _ rfl _ _ rfl B (.slice t is.length q) is.length is rfl C.out W.heap.size 1 1 _ rfl rfl E.out r.out AX D8 D8 arG.out (W.heap.size+1) Ab ?_;intro s9 ci zh JK j Tr Ts;have U:∀i g,i<3->(Value.slice t is.length q).ownBlock=some g->w.heap.size+i≠g:=λi g wE hg=>by obtain⟨hi,y⟩:=vab.1 DY.out;have:=(Q.out.lt hi (by rw[y];exact hg)).2;omega
  obtain⟨JL,R⟩:=fh.Tn K9.out P.out JK j BB;have z:=ag.grown M.out j (λg hg=>U 0 g AX hg);have X:=ag.grown JJ.out j (λg hg=>U 2 g AX hg);have JM:qM L w zh:=o.out.KJ (by have:=j.size;simp at this;omega) j.os j.tape j.output (λb hb V=>(j.block b (by have:=o.out.size;simp;omega) (λe=>by
   obtain⟨hi,y⟩:=vab.1 DY.out;exact V _ hi AN)).trans (Below.heap_alloc _ _ _ AN))
  obtain⟨u1,u2,u3⟩:=z.all;obtain⟨t1,t2,t3⟩:=X.all;have je:Hid _:=JM;have Tt:Hid _:=JL;have JN:Hid (∀i,i<3->ry _ (w.heap.size+i)):=λi hi=>R _ (by have:=o.out.size;have:=T;simp;omega) (Tq.out i hi);clear z X JM JL R J H I jM mI T JK j Tr Ts K9 P M JJ o C E r;go_wp2
  have S:=JN.out 0 AX;have p:=JN.out 2 AX;simp at S;exact vbe (v:=.agg #[.I kind,.I cY,.S s9 0 (is.length+1) ci,.slice sa l.length mB,.S f 0 (ns.length+1) a]) (by simp[results,results23,go_sem,t1]) rfl
   ⟨⟨s9,ci,f,a,.inl ⟨arF.out,rfl,(((((Tt.out.set S _ _).set p _ _).set p _ _).set p _ _).set p _ _).set p _ _⟩⟩,(((((je.out.set _ _ AN).set _ _ AY).set _ _ AY).set _ _ AY).set _ _ AY).set _ _ AY⟩
open Shelf
@[simp] theorem aCN:cS true 22:=cN (bo (upd:=true) func22 AT) AT
def DZ(cs:dC)(l:uah)(k:Nat):Prop:=∀j(h:j<l.length),j<k->cs[j*5]?=some (.I l[j].1)/\cs[j*5+1]?=some (.I l[j].2)/\cs[j*5+2]?=some (.N)/\cs[j*5+3]?=some (.N)/\cs[j*5+4]?=some (.N)
abbrev rz(cs:dC)(k:Nat)(a b c d e:Value):Array Value:=((((cs.setIfInBounds (k*5) a).setIfInBounds (k*5+1) b).setIfInBounds (k*5+2) c).setIfInBounds (k*5+3) d).setIfInBounds (k*5+4) e
def w8{k:Nat}(a b c d e:Value)(h:j≠k)(hi:i<5):(rz cs k a b c d e)[j*5+i]?=cs[j*5+i]?:=by simp only[rz,vaq];grind
theorem K0{k:Nat}(a b c d e:Value)(h:k*5+4<cs.size):(rz cs k a b c d e)[k*5]?=some a/\(rz cs k a b c d e)[k*5+1]?=some b/\(rz cs k a b c d e)[k*5+2]?=some c/\(rz cs k a b c d e)[k*5+3]?=some d/\(rz cs k a b c d e)[k*5+4]?=some e:=by simp[rz,vaq];omega
theorem DZ.step{cs:dC}{l:uah}{k:Nat}(h:DZ cs l k)(hk:k<l.length)(hs:cs.size=l.length*5):DZ (rz cs k (.I l[k].1) (.I l[k].2) (.N) (.N) (.N)) l (k+1):=by
 intro j a b;by_cases e:j=k
 .grind[K0]
 .have:=h j a AY;refine⟨(w8 (i:=0) _ _ _ _ _ e AX).trans this.1,(w8 _ _ _ _ _ e AX).trans this.2.1,(w8 _ _ _ _ _ e AX).trans this.2.2.1,(w8 _ _ _ _ _ e AX).trans this.2.2.2.1,(w8 _ _ _ _ _ e AX).trans this.2.2.2.2⟩
def arH(l:uah)(v:Value)(w:aH)(hv:gR w v l)(B:l.length<=1000000):
 Calls (aa prog true) 22 #[v] w λe w'=>∃b cs,e=.returned (.S b 0 l.length l.length)/\ag w' b cs 30/\cs.size=l.length*5/\DZ cs l l.length/\w.heap.size<=b/\cC w w':=by
 obtain⟨P,cap,rfl,L,s⟩:=hv;go_enter (bo (upd:=true) func22 AT),ntmps22
 go_wp2_with (at_make;refine Q_ apn _ U _ _ U _ _ l.length U U AY AY ?_;intro w1 bc t f u)
 have z:Hid (ag w1 w.heap.size bc 30):=t;have A:Hid (cC w w1):=u;have I:Hid _:=f;clear t u f;go_loopw [11] (λn W=>∃(k:Nat)(cs:dC),k<=l.length/\n=.I k/\ag W w.heap.size cs 30/\cs.size=l.length*5/\DZ cs l k/\cC w W)
  (λi _=>l.length-(intOf i).toNat)
 case atStart=>exact⟨0,bc,vaz _,U,z.out,I.out,λj _ M=>AN,A.out⟩
 case round=>
  obtain⟨k,cs,hk,rfl,p,x,o,r⟩:=hrel;have a:Hid (ag wr w.heap.size cs 30):=p;have q:Hid (DZ cs l k):=o;have m:Hid (cC w wr):=r;have c:Hid _:=x;clear p o r x;by_cases d:k<l.length
  .obtain⟨b,off,rfl,g,d1⟩:=s k d;simp at g;have h:=bm.b4 m.out;have C:=h _ _ _ g;have O:=h _ _ _ d1;have N:=dx C;have H:w.heap.size<wr.heap.size:=a.out.lt;clear h g d1 s;have J:(0:Int)<=(k:Int):=AY;have K:(k:Int)<(l.length:Int):=AY;have S:wr.cell? (.a w.heap.size (k*5))=some (cs[k*5]'Es):=by rw[a.out.rules.1];simp
   have R:wr.cell? (.a w.heap.size (k*5+1))=some (cs[k*5+1]'Es):=by rw[a.out.rules.1];simp
   have E:wr.cell? (.a w.heap.size (k*5+2))=some (cs[k*5+2]'Es):=by rw[a.out.rules.1];simp
   have D:wr.cell? (.a w.heap.size (k*5+3))=some (cs[k*5+3]'Es):=by rw[a.out.rules.1];simp
   have F:wr.cell? (.a w.heap.size (k*5+4))=some (cs[k*5+4]'Es):=by rw[a.out.rules.1];simp
   have Q:=a.out.rules.2;go_wp2_with fail
   go_roundw
   case rel=>
    exact⟨k+1,_,AY,by go_num,(((((a.out.set _ _).set _ _).set _ _).set _ _).set _ _).alloc _,by simp;exact c.out,q.out.step d c.out,(((((m.out.setCell Ab _).setCell Ab _).setCell Ab _).setCell Ab _).setCell Ab _).alloc BC _⟩
   case measure=>simp[intOf];omega
  .have y:k=l.length:=by omega
   go_wp2_with fail
   go_ret
   exact⟨_,_,U,a.out,c.out,by rw[<-y];exact q.out,AY,m.out⟩
