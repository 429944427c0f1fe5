import Derived.Test.YtmlddfohidhniaaGreatPAI
set_option linter.all false
set_option maxRecDepth 100000
set_option maxHeartbeats 16000000
namespace Go.Proofs.YtmlddfohidhniaaGreat
open Go.Proofs.Tryz
namespace a3
open Conc ConcM ax bp cI dm
variable{dM:Func}{hL:Code}
section
variable{O:gJ}
def cy(M:dh)(w w':aS):Prop:=(∀b c e fr,M b->w.heap[b]?=some (.cells c e fr)->w'.heap[b]?=some (.cells c e fr))/\∀b es k,M b->w.heap[b]?=some (.map es k)->w'.heap[b]?=some (.map es k)
section
variable{M M':dh}{a b c:aS}
def cy.mk(f:∀x c e fr,M x->a.heap[x]?=some (.cells c e fr)->b.heap[x]?=some (.cells c e fr))(d:∀x es k,M x->a.heap[x]?=some (.map es k)->b.heap[x]?=some (.map es k)):cy M a b:=⟨f,d⟩
theorem cy.cells(h:cy M a b):∀x c e fr,M x->a.heap[x]?=some (.cells c e fr)->b.heap[x]?=some (.cells c e fr):=h.1
def cy.Bm(h:cy M a b):∀x es k,M x->a.heap[x]?=some (.map es k)->b.heap[x]?=some (.map es k):=h.2
theorem cy.refl(M:dh)(w:aS):cy M w w:=⟨λ_ _ _ _ _ h=>h,λ_ _ _ _ h=>h⟩
theorem cy.trans(h:cy M a b)(g:∀b,M b->M' b)(k:cy M' b c):cy M a c:=⟨λx c e fr d f=>k.cells x c e fr (g x d) (h.cells x c e fr d f),λx c e d f=>k.Bm x c e (g x d) (h.Bm x c e d f)⟩
def cy.sub(k:cy M' a b)(g:∀b,M b->b<a.heap.size->M' b):cy M a b:=⟨λx c e fr f d=>k.cells x c e fr (g x f (bS.jE d)) d,λx c e f d=>k.Bm x c e (g x f (bS.jE d)) d⟩
def cy.FY(M:dh)(w:aS)(k:Nat):cy M w (w.at k):=⟨λ_ _ _ _ _ x=>x,λ_ _ _ _ x=>x⟩
def cy.Fo{M:dh}{w w':aS}(h:∀b,M b->w'.heap[b]?=w.heap[b]?):cy M w w':=⟨λb _ _ _ a e=>(h b a).trans e,λb _ _ a e=>(h b a).trans e⟩
end
theorem cy.cell{M:dh}{w w':aS}(h:cy M w w'){a:Addr}{v:Value}(g:M a.block)(hv:w.cell? a=some v):w'.cell? a=some v:=by obtain⟨c,e,fr,f,d,b⟩:=xq hv;exact mj (h.cells _ _ _ _ g f) d b
section
variable{P:b4}{Post:uab}{n:Nat}{Shun:uam}{M:dh}{w:aS}
theorem Home.map(f:Home O P M Shun w){b:Nat}(d:M b){es:Array MapEntry}{k:Nat}(e:w.heap[b]?=some (.map es k)):cE (qV (bQ M)) es.toList es.toList:=by
 obtain⟨ob,c,a⟩:=f.cl _ d;rw[e]at c;cases c;rcases a with a|a
 .cases a with|map _ h=>exact h
 .exact a.elim
def cy.carry{w':aS}(h:cy M w w')(c:Home O P M Shun w):Carry (bQ M) w w':=by
 refine⟨?_,λb i es k⟨r,hd⟩ e=>?_⟩
 .rintro a a' v ⟨⟨g,hd⟩,f,d⟩ hv;have e:a=a':=by obtain⟨x,y,z⟩:=a';obtain⟨p,q,r⟩:=a;grind
  subst e;exact⟨v,h.cell hd hv,c.cell hd hv⟩
 .subst r;exact⟨es,h.Bm _ _ _ hd e,c.map hd e⟩
def aoh{ρ:Ren}(e:∀a b j,ρ.rel a b->ρ.rel a j->b=j){x y:List MapEntry}(h:cE (qV ρ) x y):cE (qV ρ) x x->y=x:=by induction h with|nil=>exact λ_=>Y|@cons a b _ _ c _ l=>intro m;cases m with|cons d ht=>obtain⟨k,v,n⟩:=a;obtain⟨k',o,p⟩:=b;have i:=Jl e d.key c.key;have g:=Jl e d.val c.val;have f:=c.born;simp only at i g f;rw[l ht,i,g,f]
def ZZ{ρ:Ren}(e:∀a b c,ρ.rel a b->ρ.rel a c->b=c){x y:dp}(h:aJ ρ x y)(d:aJ ρ x x):y=x:=by
 apply Array.ext
 .exact h.size.symm
 .intro i hi f;exact(Jl e (d.get i x[i] x[i] AA AA) (h.get i x[i] y[i] AA AA)).symm
def Behind.Z0{ρ:Ren}{t s w':aS}(h:Behind O P M Shun w ρ s w')(m:Home O P M Shun w)(u:gP (cY P) M (iR M) w t){N:dh}(a7:∀b,N b->M b)(hk:∀b o,N b->t.heap[b]?=some o->s.heap[b]?=some o):cy N w w':=by
 obtain⟨S,j⟩:=h.rel;refine .mk (λb c e fr a f=>?_) (λb es k a f=>?_)
 .obtain⟨y,p,E⟩:=u.cells m.cl (a7 b a) f;have C:=E (a7 b a);subst C;have q:=hk b _ a p;obtain⟨o,o',d,i,n⟩:=j.obj b b (h.le.1 b b ⟨Y,a7 b a⟩);rw[q]at d;cases d;cases n with
  |@cells _ H _ _ D hc A=>
   have B:D=y:=A.2 Y;subst B;obtain⟨o2,r,g⟩:=m.cl b (a7 b a);rw[f]at r;cases r;rcases g with g|g
   .cases g with|cells _ v _=>rw[ZZ j.one hc (v.mono h.le)]at i;exact i
   .exact g.elim
 .obtain⟨p,-⟩:=u.Bm m.cl (.inr λ_ h=>h) (a7 b a) f;have q:=hk b _ a p;obtain⟨o,o',d,i,n⟩:=j.obj b b (h.le.1 b b ⟨Y,a7 b a⟩);rw[q]at d;cases d;cases n with|@map _ es' _ z=>have e:=aoh j.one z (cE.mono (λ_ _ x=>qV.mono h.le x) (m.map (a7 b a) f));obtain⟨l⟩:=es;obtain⟨F⟩:=es';simp only at e;rw[i,e]
def aoi{ρ:Ren}{r w':aS}(f:Behind O P M Shun w ρ r w'){a a':Act}(l:aJ (bQ M) a.tmps a.tmps)(hd:a.defers=[])(g:a'.defers=[]){dst:Option Tmp}{v:Value}(h:aJ ρ (a.put dst v).tmps a'.tmps)(o:∀d,dst=some d->d<a.tmps.size):
 ∃u,a'=a.put dst u/\(dst≠none->ar ρ v u):=by
 obtain⟨b,m⟩:=a';have g:m=[]:=g;subst g;obtain⟨S,q⟩:=f.rel;cases dst with
 |none=>refine⟨undef,?_,AA⟩;have e:b=a.tmps:=ZZ q.one h (l.mono f.le);subst e;obtain⟨t,ds⟩:=a;have hd:ds=[]:=hd;subst hd;rfl
 |some d=>
  have i:=o d Y;have hsz:b.size=a.tmps.size:=by have:=h.size;grind[iS]
  have p:b[d]?=some (b[d]'(hsz▸i)):=AA;refine⟨b[d]'(hsz▸i),?_,λ_=>h.get d _ _ (by simp[Act.put,i]) p⟩;show _=(⟨a.tmps.setIfInBounds d _,a.defers⟩:Act);rw[hd];congr 1
  apply Array.ext
  .grind
  .intro j k c;have x:j<a.tmps.size:=AA;apply van;rw[<-vao k,<-vao c,vak];by_cases s:d=j
   .grind
   .simp[s];have n:ar ρ a.tmps[j] b[j]:=h.get j _ _ (by grind[Act.put]) AA;rw[vao k,vao x,f.same (l.get j _ _ AA AA) n]
variable{f:uaj}{a:Act}{ops:eY}{i:Nat}{rest:uaa}{k:il}{cs:fV}{o:Oper}
def aoj(x:(cY P).Good)(A:Home O P M Shun w)(t:kA P f)(l:aJ (bQ M) a.tmps a.tmps)(hd:a.defers=[])(hk:(Item.inRegion ops []::k).all (gr P)=true)(s:ops[i]?=some o)(q:Region.wanted o (yielded ops a.tmps)=true)(p:∀d,o.dst=some d->d<a.tmps.size){gZ:ubn}(hrun:∀c,gP (cY P) M (iR M) w c->∀T,∃v w1,gZ c v w1/\((execOp a.eval o).run (ae P true) {c with tape:=T}=.ok (.value v) w1\/((execOp a.eval o).run (ae P true) {c with tape:=T}=.ok .skip w1/\v=undef)))(z:∀ρ c v w1 u w',gP (cY P) M (iR M) w c->gZ c v w1->(o.dst≠none->ar ρ v u)->Behind O P M Shun w ρ w1 w'->aJ (bQ (pO ρ)) (a.put o.dst u).tmps (a.put o.dst u).tmps->bP P Post n Shun 0 (a0 ((base f).at (a.put o.dst u) (.inRegion ops rest::k)) cs) w'):
 bP P Post n Shun 0 (a0 ((base f).at a (.inRegion ops (i::rest)::k)) cs) w:=by
 simp only[vbj,vaf]at hk;refine wp_move x A t l hd (k:=.inRegion ops (i::rest)::k) (k':=.inRegion ops rest::k) HS HS (Q:=λc a1 w1=>∃v,a1=a.put o.dst v/\gZ c v w1) (λc j T b cs=>?_) ?_
 .obtain⟨v,w1,e,g⟩:=hrun c j T;refine⟨a.put o.dst v,w1,⟨v,Y,e⟩,GX,.one (step_lone_go ?_)⟩;rw[stepG_op s q];have B:∀v,(b.at a (.inRegion ops (i::rest)::k)).finish v=b.at (a.put o.dst v) (.inRegion ops rest::k):=by grind[Frame.finish_at]
  rcases g with g|⟨g,rfl⟩
  .simp_all[stepG.apply]
  simp_all[stepG.apply]
 .rintro ρ c a1 w1 a' w' j ⟨v,rfl,e⟩ m y h;obtain⟨u,rfl,r⟩:=aoi h l hd y m p;exact z ρ c v w1 u w' j e r h (h.all m)
def aok(A:(cY P).Good)(m:Home O P M Shun w)(x:kA P f)(z:aJ (bQ M) a.tmps a.tmps)(hd:a.defers=[])(hk:(Item.inRegion ops []::k).all (gr P)=true)(t:ops[i]?=some o)(r:Region.wanted o (yielded ops a.tmps)=true){d:Tmp}(q:o.dst=some d/\d<a.tmps.size){v:Value}(hv:ar (bQ M) v v)(hrun:∀c,gP (cY P) M (iR M) w c->∀T,(execOp a.eval o).run (ae P true) {c with tape:=T}=.ok (.value v) {c with tape:=T})(B:∀M' w',(∀b,M b->M' b)->Home O P M' Shun w'->lL w w'->cy M w w'->aJ (bQ M') (a.put (some d) v).tmps (a.put (some d) v).tmps->bP P Post n Shun 0 (a0 ((base f).at (a.put (some d) v) (.inRegion ops rest::k)) cs) w'):
 bP P Post n Shun 0 (a0 ((base f).at a (.inRegion ops (i::rest)::k)) cs) w:=by
 refine aoj A m x z hd hk t r AA (gZ:=λc j w1=>j=v/\∃T,w1={c with tape:=T}) (λc p T=>⟨v,_,⟨Y,T,Y⟩,AA⟩) ?_;rintro ρ c j w1 u w' p ⟨rfl,T,rfl⟩ s g l;have e:u=j:=g.same hv (s AA);subst e;rw[q.1]at l⊢;exact B (pO ρ) w' (λb y=>g.mem y) g.fH g.since (g.Z0 m p (λ_ h=>h) AA) l
def Z1{d:Nat}{g:uaj}{args:uaw}{ats:uaq}(c:o.op=.call {callee:=.value (.func g),args,argTypes:=ats})(hg:P.funcs[g]?=some dM)(l:(dM.name== "runtime.NumGoroutine")=false)(m:dM.body=some hL){vs:dp}(p:args.map a.eval=vs){V:ube}(hn:n+16*d<=900000)(B:Home O P M Shun w)(hc:wK P M f a ops i k)(s:ops[i]?=some o)(r:Region.wanted o (yielded ops a.tmps)=true)(q:∀k,gi O P Post g vs M (w.at k) d V)(z:∀u M' w' e h,e<=n+16*d->Home O P M' h w'->(∀b,M b->M' b)->ar (bQ M') u u->lL w w'->V u M' w'->bP P Post e h 0 (a0 ((base f).at (a.put o.dst u) (.inRegion ops rest::k)) cs) w'):
 bP P Post n Shun 0 (a0 ((base f).at a (.inRegion ops (i::rest)::k)) cs) w:=by
 refine Ae (oi Y (w1:=w) (es:=#[]) (λk'=>(stepG_enter s r (by simp[base]) (jd.rl (b:=base f) c hg l m p _).1).trans (vcm (λes=>GStep.go _ _ es) (jd.rl (b:=base f) c hg l m p _).2)) Ad JT (.stop λk'=>?_));refine q k' n Shun hn (B.at _) f a ops i rest k cs hc (λu M' w' e h y x v t j A=>?_);have:=z u M' w' e h y x v t ⟨j.size,j.later,j.output,j.tape⟩ A;grind
theorem count_set{au:uat}{i:Nat}(h:au.getD i true=false):(au.setIfInBounds i true).toList.count false+1=au.toList.count false:=by
 have hi:i<au.size:=by grind
 have hv:au[i]=false:=BK;grind
def Z3(g:P.follows .mixedOrders=true){I:Array Bool->Act->(Nat->Prop)->aS->Nat->(Loc->Prop)->Prop}(cX:∀au a M w n Shun k,I au a M w n Shun->I au a M (w.at k) n Shun)(hstep:∀au a M w n Shun i o rest,I au a M w n Shun->au.getD i true=false->ops[i]?=some o->(∀e∈o.after,Region.binds .any e=true->au.getD e.on false=true)->(∀a' M' w' b d,I (au.setIfInBounds i true) a' M' w' b d->bP P Post b d 0 (a0 ((base f).at a' (.inRegion ops rest::k)) cs) w')->bP P Post n Shun 0 (a0 ((base f).at a (.inRegion ops (i::rest)::k)) cs) w)(h:∀au a M w n Shun,I au a M w n Shun->Region.ready .any ops au=[]->bP P Post n Shun 0 (a0 ((base f).at a (.inRegion ops []::k)) cs) w){id:Nat}(h0:I (Array.replicate ops.size false) a M w n Shun):bP P Post n Shun 0 (a0 ((base f).at a (.code (.region id ops true)::k)) cs) w:=by
 have key:∀(m t:Nat)(au:uat)(a:Act)(M:dh)(w:aS)(n:Nat)(Shun:uam),au.toList.count false<=m->I au a M w n Shun->bP P Post n Shun 0 (a0 ((base f).at a (.inRegion ops (Region.linearise.go .any ops m t au [])::k)) cs) w:=by
  intro m;induction m with
  |zero=>intro t au a M w n Shun hc c;refine h au a M w n Shun c ?_;cases j:Region.ready .any ops au with|nil=>rfl|cons x xs=>have q:x∈Region.ready .any ops au:=AA;grind[count_set,mem_ready]
  |succ m p=>
   intro t au a M w n Shun hc c;simp only[Region.linearise.go];change bP P Post n Shun 0 (a0 ((base f).at a (.inRegion ops (match(Region.ready .any ops au)[t % (Region.ready .any ops au).length]? with
    |some i=>Region.linearise.go .any ops m (t / (Region.ready .any ops au).length) (au.setIfInBounds i true) [i]
    |none=>[].reverse)::k)) cs) w
   cases hi:(Region.ready .any ops au)[t % (Region.ready .any ops au).length]? with
   |none=>
    have l:Region.ready .any ops au=[]:=by cases j:Region.ready .any ops au with|nil=>rfl|cons x xs=>grind[Nat.mod_lt]
    grind
   |some i=>simp only[];rw[linearise_go_acc,List.reverse_singleton,List.singleton_append];obtain⟨u,o,s,r⟩:=mem_ready.1 (vcd hi);grind[count_set]
 refine Ae (eQ.mk Y λk'=>⟨_,_,_,stepG_region_draw,Ad,vac _,.stop λk''=>?_⟩);simp only[Region.schedule,g,Bool.true_or,vdh];exact key ops.size _ _ a M _ n Shun Ad (AA:I _ a M (w.at k'') n Shun)
end
end
variable{x y:Code}
section
variable{O:gJ}
def jZ(R:uag)(e:Exit)(a:Act)(w:aS):Prop:=e=.normal/\R a w
section
variable{P:b4}
def Js{ops:eY}{R:uag}(l2:uaa)(l:uaa):∀(a:Act)(w:aS),wpOps P ops (jZ R) l a w->∀(b:Frame)(k:il)(cs:fV),
 ∃a' w',R a' w'/\Steps P (lone (b.at a (.inRegion ops (l++l2)::k)) cs w) (lone (b.at a' (.inRegion ops l2::k)) cs w'):=by
 induction l with
 |nil=>exact λa w h b k cs=>⟨a,w,h.2,.refl _ _⟩
 |cons i rest j=>
  intro a w h b k cs;simp[wpOps]at h;simp;cases m:ops[i]? with
  |none=>simp[m]at h;obtain⟨a',w',hq,c⟩:=j a w h b k cs;have hs:=step_op_skip (P:=P) (b:=b) (a:=a) (k:=k) (cs:=cs) (w:=w) (ops:=ops) (i:=i) (rest:=rest++l2) AA;simp[m,Act.put]at hs;exact⟨a',w',hq,.head hs c⟩
  |some o=>
   simp[m]at h;by_cases s:Region.wanted o (yielded ops a.tmps)=true
   .simp[s]at h;rcases h with h|⟨y,r,n,hq⟩
    case inr=>cases hq.1
    simp[Oper.wp,Oper.upon]at h;have hg:=stepG_op (P:=P) (b:=b) (k:=k) (cs:=cs) (w:=w) (rest:=rest++l2) m s;have z:∀v,(b.at a (.inRegion ops (i::(rest++l2))::k)).finish v=b.at (a.put o.dst v) (.inRegion ops (rest++l2)::k):=by grind[Frame.finish_at]
    split at h
    .rename_i v w' p;obtain⟨a',w'',hq,c⟩:=j _ _ h b k cs;refine⟨a',w'',hq,.head (step_lone_go ?_) c⟩;simp_all[stepG.apply]
    .rename_i w' p;obtain⟨a',w'',hq,c⟩:=j _ _ h b k cs;refine⟨a',w'',hq,.head (step_lone_go ?_) c⟩;simp_all[stepG.apply]
    .rename_i d w' p;obtain⟨a',w'',hq,c⟩:=j _ _ h b k cs;refine⟨a',w'',hq,.head (step_lone_go ?_) c⟩;have:({b.at a (.inRegion ops (i::(rest++l2))::k)with defers:=d::a.defers}:Frame).finish undef=
      b.at ({a with defers:=d::a.defers}.put o.dst undef) (.inRegion ops (rest++l2)::k):=by
      have:=vde b {a with defers:=d::a.defers} ops i (rest++l2) k undef;rw[m]at this;exact this
     rw[hg];simp only[stepG.apply,vau,p,GStep.bare_after];exact vcm (λfr=>GStep.go {frame:=fr,callers:=cs,status:=.running,dying:=none} w') this
    .rename_i f args w' p;obtain⟨e,w'',fr,q,u,_,x⟩:=h (b.at a (.inRegion ops (i::(rest++l2))::k)::cs);have t:step P (lone (b.at a (.inRegion ops (i::(rest++l2))::k)) cs w)=
      .next (lone (Frame.enter P f args .normal) (b.at a (.inRegion ops (i::(rest++l2))::k)::cs) w'):=
      step_lone_go (by simp_all[stepG.apply,Frame.at])
     cases e with
     |returned v=>obtain⟨a',g,hq,c⟩:=j _ _ q b k cs;refine⟨a',g,hq,.head t (Steps.trans u (.head ?_ c))⟩;grind[step_leave_returned]
     |panicked chain=>cases q.1
     |outgrown=>obtain⟨r,n,hq⟩:=q;cases hq.1
    .rename_i row args w' p;obtain⟨v,w'',q,u⟩:=h (b.at a (.inRegion ops (i::(rest++l2))::k)) cs;have t:step P (lone (b.at a (.inRegion ops (i::(rest++l2))::k)) cs w)=
      .next (lone (Frame.ofRow P row args .normal) (b.at a (.inRegion ops (i::(rest++l2))::k)::cs) w'):=
      step_lone_go (by simp_all[stepG.apply,Frame.at])
     obtain⟨a',g,hq,c⟩:=j _ _ q b k cs;refine⟨a',g,hq,.head t (Steps.trans ?_ c)⟩;grind
    .cases h.1
    grind
   .simp[s]at h;obtain⟨a',w',hq,c⟩:=j _ _ h b k cs;have hs:=step_op_skip (P:=P) (b:=b) (a:=a) (k:=k) (cs:=cs) (w:=w) (ops:=ops) (i:=i) (rest:=rest++l2)
     AA
    simp[m]at hs;exact⟨a',w',hq,.head hs c⟩
def bI(P:b4)(ks ks':il)(Q:uag)(a:Act)(w:aS):Prop:=
 ∀(b:Frame)(cs:fV),∃a1 w1,Q a1 w1/\Steps P (lone (b.at a ks) cs w) (lone (b.at a1 ks') cs w1)
variable{ks ks':il}{Q:uag}{a:Act}{w:aS}
def kf(h:Q a w):bI P ks ks Q a w:=λ_ _=>⟨a,w,h,.refl _ _⟩
def wL{rz:il}{w1:aS}(hs:∀(b:Frame)(cs:fV),step P (lone (b.at a ks) cs w)=.next (lone (b.at a rz) cs w1))(h:bI P rz ks' Q a w1):bI P ks ks' Q a w:=λb cs=>by obtain⟨a1,c,e,d⟩:=h b cs;exact⟨a1,c,e,.head (hs b cs) d⟩
def bm(h:bI P (.code x:: .code y::ks) ks' Q a w):bI P (.code (.seq x y)::ks) ks' Q a w:=wL (λ_ _=>step_seq) h
def ln{id:Nat}{c:Code}(h:bI P (.code c:: .inBlock id::ks) ks' Q a w):bI P (.code (.block id c)::ks) ks' Q a w:=wL (λ_ _=>step_block) h
def tT{id:Nat}(h:bI P ks ks' Q a w):bI P (.inBlock id::ks) ks' Q a w:=wL (λ_ _=>step_inBlock) h
def wM{c:Code}(h:bI P (.code c:: .inLoop c::ks) ks' Q a w):bI P (.code (.loop c)::ks) ks' Q a w:=wL (λ_ _=>step_loop) h
def wN{c:Code}(h:bI P (.code c:: .inLoop c::ks) ks' Q a w):bI P (.inLoop c::ks) ks' Q a w:=wL (λ_ _=>step_inLoop) h
def fj{c:uar}{t:Bool}(ht:a.eval c=.bool t)(h:bI P (.code (if t then x else y)::ks) ks' Q a w):bI P (.code (.cond c x y)::ks) ks' Q a w:=wL (λb cs=>by rw[step_cond ht]) h
def lN(h:bI P ks ks' Q a w):bI P (.code .skip::ks) ks' Q a w:=wL (λ_ _=>step_skip) h
def va{id:Nat}{rz:il}(b:exitTo id ks=some rz)(h:bI P rz ks' Q a w):bI P (.code (.exit id)::ks) ks' Q a w:=wL (λ_ _=>step_exit b) h
def sI{id:Nat}{ops:eY}(h:bI P (.inRegion ops (List.range' 0 ops.size)::ks) ks' Q a w):bI P (.code (.region id ops false)::ks) ks' Q a w:=wL (λb cs=>by rw[step_region,List.range_eq_range']) h
def wO{ops:eY}(h:bI P ks ks' Q a w):bI P (.inRegion ops []::ks) ks' Q a w:=wL (λ_ _=>step_region_end) h
def Cu{c:Code}(h:c.wp P (jZ (bI P ks ks' Q)) a w):bI P (.code c::ks) ks' Q a w:=λb cs=>by obtain⟨e,a1,w1,⟨rfl,hq⟩,f⟩:=h b ks cs;obtain⟨j,d,i,g⟩:=hq b cs;exact⟨j,d,i,Steps.trans f g⟩
def aol{ops:eY}{Q:uai}(l:uba):∀k,(∀j(h:j<l.length),ops[k+j]?=some l[j])->wpOps P ops Q (List.range' k l.length)=wpList P ops Q l:=by induction l with|nil=>grind[wpOps,wpList]|cons o l a=>intro k h;have h0:ops[k]?=some o:=h 0 Ad;have ih':=a (k+1) (λj b=>by have:=h (j+1) AA;grind);simp_all[List.range'_succ,wpOps,wpList]
def Jt{ops:eY}(m:Nat){k len:Nat}(g:m<=len)(i:k+len<=ops.size)(h:wpList P ops (jZ (bI P (.inRegion ops (List.range' (k+m) (len-m))::ks) ks' Q)) ((ops.toList.drop k).take m) a w):bI P (.inRegion ops (List.range' k len)::ks) ks' Q a w:=λb cs=>by
 have hlen:((ops.toList.drop k).take m).length=m:=AA;have c:wpOps P ops (jZ (bI P (.inRegion ops (List.range' (k+m) (len-m))::ks) ks' Q)) (List.range' k m) a w:=by
  have:=aol (P:=P) (ops:=ops) (Q:=jZ (bI P (.inRegion ops (List.range' (k+m) (len-m))::ks) ks' Q)) ((ops.toList.drop k).take m) k (λj l=>by
   grind)
  simp_all
 have d:List.range' k len=List.range' k m++List.range' (k+m) (len-m):=by simp_all
 obtain⟨a1,w1,e,p⟩:=Js (List.range' (k+m) (len-m)) (List.range' k m) a w c b ks cs;obtain⟨q,f,o,n⟩:=e b cs;grind[Steps.trans]
def rA(P:b4)(fn:Func)(ks:il)(gZ:uab)(a:Act)(w:aS):Prop:=
 ∀(f:uaj)(cs:fV),P.funcs[f]?=some fn->∃v w1 fr,gZ v w1/\Steps P (lone ((base f).at a ks) cs w) (lone fr cs w1)/\fr.leaving P w1 (.returned v)
def Cv{fn:Func}{gZ:uab}(h:bI P ks ks' (rA P fn ks' gZ) a w):rA P fn ks gZ a w:=λf cs b=>by obtain⟨a1,w1,c,j⟩:=h (base f) cs;obtain⟨v,d,fr,i,g,e⟩:=c f cs b;grind[Steps.trans]
def Nf{fn:Func}{gZ:uab}{v:Value}(hd:a.defers=[])(b:(results fn a.tmps).run P w=.ok v w)(h:gZ v w):rA P fn (.code .ret::ks) gZ a w:=λf cs c=>
 ⟨v,w,_,h,.one step_ret,Y,hd,Y,fn,c,b⟩
def aom{fn:Func}{c:Code}{gZ:uab}(h:c.wp P (bodyPost P fn λe w=>∃v,e=.returned v/\gZ v w) a w):rA P fn [.code c] gZ a w:=λf cs i=>by
 obtain⟨e,a1,w1,hq,g⟩:=h (base f) [] cs;cases e with
 |normal=>obtain⟨hd,v,b,u,e,d⟩:=hq;cases e;exact⟨v,w1,_,d,Steps.trans g (.one step_end),Y,hd,Y,fn,i,b⟩
 |ret=>obtain⟨hd,v,b,u,e,d⟩:=hq;cases e;obtain⟨todo,hs⟩:=g;exact⟨v,w1,_,d,hs,Y,hd,Y,fn,i,b⟩
 |panic chain=>obtain⟨_,u,e,_⟩:=hq;cases e
 |exit id=>exact hq.elim
 |goto l=>exact hq.elim
 |outgrown=>obtain⟨u,e,_⟩:=hq;cases e
end
section
variable{P:b4}{Post:uab}{n:Nat}{Shun:uam}{M:dh}{w:aS}{f:uaj}{a:Act}{k k':il}{cs:fV}
def Z4(g:(cY P).Good)(j:Home O P M Shun w)(d:kA P f)(e:aJ (bQ M) a.tmps a.tmps)(hd:a.defers=[])(hk:k.all (gr P)=true)(h:k'.all (gr P)=true){Q:aS->Act->aS->Prop}(hrun:∀c,gP (cY P) M (iR M) w c->∀T,bI (ae P true) k k' (λa1 w1=>a1.defers=[]/\Q c a1 w1) a {c with tape:=T})(i:∀ρ c a1 w1 a' w',gP (cY P) M (iR M) w c->Q c a1 w1->aJ ρ a1.tmps a'.tmps->a'.defers=[]->Behind O P M Shun w ρ w1 w'->bP P Post n Shun 0 (a0 ((base f).at a' k') cs) w'):
 bP P Post n Shun 0 (a0 ((base f).at a k) cs) w:=
 wp_move g j d e hd hk h (λc l T b cs=>by
  obtain⟨a1,w1,⟨p,o⟩,m⟩:=hrun c l T b cs;grind) i
def aon(e:(cY P).Good)(s:Home O P M Shun w){fn:Func}(j:P.funcs[f]?=some fn)(i:iK P true fn=true)(l:fn.body=some hL)(m:aJ (bQ M) a.tmps a.tmps)(hd:a.defers=[])(hk:k.all (gr P)=true){d:uaj}{aF:Act}{aC:eY}{aK:Nat}{aM:uaa}{aH:il}{csZ:fV}(hc:wK P M d aF aC aK aH){gZ:ubn}(hrun:∀b,gP (cY P) M (iR M) w b->∀T,rA (ae P true) fn k (gZ b) a {b with tape:=T})(r:∀ρ b v g u w',gP (cY P) M (iR M) w b->gZ b v g->ar ρ v u->Behind O P M Shun w ρ g w'->bP P Post n Shun 0 (a0 ((base d).at (aF.put ((aC[aK]?).bind (·.dst)) u) (.inRegion aC aM::aH)) csZ) w'):
 bP P Post n Shun 0 (a0 ((base f).at a k) ((base d).at aF (.inRegion aC (aK::aM)::aH)::csZ)) w:=by
 have h:(ae P true).funcs[f]?=some fn:=bw j i;refine aoc e s (Jm e ⟨fn,hL,h,l⟩ m hd hk) hc (gZ:=gZ) (λb t T c cs=>?_) r;obtain⟨v,w1,fr,q,p,o⟩:=hrun b t T f (c::cs) h;exact⟨v,w1,q,Steps.trans p (.one (step_leave_returned o))⟩
def Aj{fn:Func}(b:P.funcs[f]?=some fn)(a:iK P true fn=true)(c:fn.body=some hL):kA P f:=⟨fn,hL,bw b a,c⟩
end
end
section
variable{O:gJ}
def Z5(G:ube):Prop:=∀v M w M' w',Carry (bQ M) w w'->ar (bQ M) v v->(∀b,M b->M' b)->cy M w w'->G v M w->G v M' w'
structure sJ(O:gJ)(P:b4)(bs:uae)(dd:uas)(m N:Nat)(G:uaf)(c6:Nat)(a6:dh)(w0:aS)(g n0 tU:Nat)(au:uat)(a:Act)(M:dh)(w:aS)(n:Nat)(Shun:uam):Prop where
 fH:Home O P M Shun w
 len:au.size=c6
 size:a.tmps.size=N
 defers:a.defers=[]
 all:aJ (bQ M) a.tmps a.tmps
 sub:∀b,a6 b->M b
 keep:cy a6 w0 w
 since:lL w0 w
 base:∀p∈bs,a.tmps[p.1]?=some p.2
 facts:∀j,j<m->au.getD j false=true->∃v,a.tmps[dd j]?=some v/\G j v M w
 most:n<=tU/\(au.getD g false=false->n<=n0)
section
variable{P:b4}{bs:uae}{dd:uas}{m N c6:Nat}{G:uaf}{a6:dh}{w0:aS}{g n0 tU:Nat}{au:uat}{a:Act}{M:dh}{w:aS}{n:Nat}{Shun:uam}
def sJ.start{Shun:uam}(d:Home O P a6 Shun w0)(hs:a.tmps.size=N)(hd:a.defers=[])(c:aJ (bQ a6) a.tmps a.tmps)(b:∀p∈bs,a.tmps[p.1]?=some p.2)(hn:n<=tU/\n<=n0):sJ O P bs dd m N G c6 a6 w0 g n0 tU (Array.replicate c6 false) a a6 w0 n Shun:=
 ⟨d,Ad,hs,hd,c,λ_ h=>h,cy.refl _ _,lL.refl _,b,λj _ h=>by
  simp_all[Array.getD],hn.1,λ_=>hn.2⟩
theorem sJ.at(f:∀j v M w k,G j v M w->G j v M (w.at k))(k:Nat)(h:sJ O P bs dd m N G c6 a6 w0 g n0 tU au a M w n Shun):sJ O P bs dd m N G c6 a6 w0 g n0 tU au a M (w.at k) n Shun:=
 ⟨(h.fH.at _),h.len,h.size,h.defers,h.all,h.sub,h.keep,⟨h.since.size,h.since.later,h.since.output,h.since.tape⟩,h.base,λj c b=>by
  obtain⟨v,e,d⟩:=h.facts j c b;grind,h.most⟩
theorem sJ.eval(h:sJ O P bs dd m N G c6 a6 w0 g n0 tU au a M w n Shun){t:Nat}{v:Value}(b:(t,v)∈bs):a.eval (.tmp t)=v:=by have:=h.base _ b;simp[Act.eval,this]
theorem rB{au:uat}{i j:Nat}(hi:i<au.size):(au.setIfInBounds i true).getD j false=true↔j=i\/au.getD j false=true:=by
 rcases vdd j au.size with x|x
 .simp only[Array.getD,vct,x,dif_pos,Array.getInternal_eq_getElem,Array.getElem_setIfInBounds];grind
 grind
theorem sJ.step(h:sJ O P bs dd m N G c6 a6 w0 g n0 tU au a M w n Shun){j:Nat}{u:Value}{M':dh}{w':aS}{c:Nat}{o:uam}(t:j<m/\j<c6/\dd j<N)(D:∀p∈bs,dd j≠p.1)(x:∀i,i<m->i≠j->dd j≠dd i)(z:∀i,i<m->Z5 (G i))(B:Home O P M' o w')(d:∀b,M b->M' b)(hk:cy M w w')(hs:lL w w')(s:ar (bQ M') u u)(C:G j u M' w')(hn:c<=tU/\(j≠g->c<=n)):sJ O P bs dd m N G c6 a6 w0 g n0 tU (au.setIfInBounds j true) (a.put (some (dd j)) u) M' w' c o:=by
 have A:aJ (bQ M') a.tmps a.tmps:=h.all.mono (qx d);refine⟨B,by simp[h.len],GR,GA,?_,λb y=>d b (h.sub b y),h.keep.trans h.sub hk,h.since.trans hs,λp k=>?_,λi hi l=>?_,hn.1,λl=>?_⟩
 .exact A.set s _
 .have:=h.base p k;simp[Act.put,D p k];grind
 .by_cases e:i=j
  .subst e;exact⟨u,by simp[Act.put,h.size,t.2.2],C⟩
  .have q:au.getD i false=true:=((rB FU).1 l).resolve_left e;obtain⟨v,f,r⟩:=h.facts i hi q;refine⟨v,?_,z i hi v M w M' w' (hk.carry h.fH) ?_ d hk r⟩
   .simp_all[Act.put]
   .exact h.all.get _ _ _ f f
 .by_cases e:j=g
  .have:=(rB (au:=au) (i:=j) (j:=g) FU).2 (.inl e.symm);grind
  .refine vad (hn.2 e) (h.most.2 ?_);simp_all
theorem ya{o:Oper}(h:o.guard=none)(y:Nat->Option Bool):Region.wanted o y=true:=by grind[Region.wanted]
variable{Post:uab}{f:uaj}{ops:eY}{rest:uaa}{k:il}{cs:fV}{o:Oper}{j:Nat}
def sJ.val(z:(cY P).Good)(y:kA P f)(hk:(Item.inRegion ops []::k).all (gr P)=true)(hd:∀i,i<m->i<c6/\dd i<N/\(∀p∈bs,dd i≠p.1)/\∀c,c<m->c≠i->dd i≠dd c)(q:∀i,i<m->Z5 (G i))(h:sJ O P bs dd m N G c6 a6 w0 g n0 tU au a M w n Shun)(x:ops[j]?=some o)(d:j<m)(u:o.dst=some (dd j))(A:o.guard=none)(v:Value)(hv:ar (bQ M) v v)(hrun:∀e,gP (cY P) M (iR M) w e->∀T,(execOp a.eval o).run (ae P true) {e with tape:=T}=.ok (.value v) {e with tape:=T})(E:G j v M w)(K:∀a' M' w' l s,sJ O P bs dd m N G c6 a6 w0 g n0 tU (au.setIfInBounds j true) a' M' w' l s->bP P Post l s 0 (a0 ((Conc.base f).at a' (.inRegion ops rest::k)) cs) w'):
 bP P Post n Shun 0 (a0 ((Conc.base f).at a (.inRegion ops (j::rest)::k)) cs) w:=by
 obtain⟨d1,r,C,B⟩:=hd j d;refine aok z h.fH y h.all h.defers hk x (ya A _) ⟨u,by rw[h.size];exact r⟩ hv hrun λM' w' hs D t b F=>?_;exact K _ M' w' n Shun (h.step ⟨d,d1,r⟩ C B q D hs b t (hv.mono (qx hs)) (q j d v M w M' w' (b.carry h.fH) hv hs b E) ⟨h.most.1,AA⟩)
def Z6{ops:eY}(a:(List.range ops.size).all (λj=>match ops[j]? with|some o=>o.after.all λe=> !Region.binds .any e||decide (e.on<j)|none=>true)=true)(h:au.size=ops.size)(f:Region.ready .any ops au=[]):∀j,j<ops.size->au.getD j false=true:=by
 intro j;induction j using Nat.strongRecOn with
 | _ j d=>
  intro b;apply vaw;intro hn;have g:j∈Region.ready .any ops au:=by
   refine mem_ready.2 ⟨?_,ops[j],AA,λe c i=>?_⟩
   .grind
   .have:=List.all_eq_true.1 a j AA;simp only[vao b]at this;have:=vam.1 this e c;grind
  grind
end
end
section
open RowKit
variable{O:gJ}
structure yb(n0:Nat)(ρ:Ren)(w w':aS):Prop where
 cells:Carry ρ w w'
 types:∀a b c e z,ρ.rel a b->w.heap[a]?=some (.cells c e z)->∃c',w'.heap[b]?=some (.cells c' e z)/\c'.size=c.size
 new:∀a b,ρ.rel a b->n0<=a->n0<=b
 inj:∀a a' b,ρ.rel a b->ρ.rel a' b->a=a'
def kg(n0:Nat)(R:uaz):Prop:=∀ρ w w' v v',yb n0 ρ w w'->ar ρ v v'->R w v->R w' v'
def pQ(n0:Nat)(I:uag):Prop:=∀ρ a a' w w',yb n0 ρ w w'->aJ ρ a.tmps a'.tmps->I a w->I a' w'
def oY(N:Nat)(fs:List (Nat×(aS->Value->Prop)))(a:Act)(w:aS):Prop:=a.tmps.size=N/\∀p∈fs,∃v,a.tmps[p.1]?=some v/\p.2 w v
def yc{n0 N:Nat}{fs:List (Nat×(aS->Value->Prop))}(h:∀p∈fs,kg n0 p.2):pQ n0 (oY N fs):=by rintro ρ a a' w w' hc c ⟨hs,e⟩;refine⟨by rw[<-c.size];exact hs,λp b=>?_⟩;obtain⟨v,j,i⟩:=e p b;obtain⟨d,g,f⟩:=c.some j;exact⟨d,g,h p b _ _ _ _ _ hc f i⟩
section
variable{P:b4}{Post:uab}{n:Nat}{Shun:uam}{M:dh}{w:aS}
def Behind.kX{n0:Nat}{ρ:Ren}{g w':aS}(h:Behind O P M Shun w ρ g w')(hn:n0<=w.heap.size):yb n0 ρ g w':=by
 refine⟨h.carry,λa b c e z r k=>?_,λa b r p=>?_,(by obtain⟨S,d⟩:=h.rel;exact d.inj)⟩
 .obtain⟨S,d⟩:=h.rel;obtain⟨o,o',f,j,i⟩:=d.obj a b r;rw[k]at f;cases f;cases i with|@cells _ q _ _ n hc l=>have m:n=z:=l.2 Y;subst m;exact⟨_,j,hc.size.symm⟩
 .rcases h.old a b r with⟨e,-⟩|h
  .grind
  .omega
def Home.kX{n0:Nat}(d:Home O P M Shun w){g:aS}(f:gP (cY P) M (iR M) w g)(T:Nat->Question->Nat):yb n0 (bQ M) w {g with tape:=T}:=by refine⟨⟨(f.carry d.cl (.inr λ_ h=>h)).cell,(f.carry d.cl (.inr λ_ h=>h)).map⟩,λa b c e z r i=>?_,λa b r k=>r.1▸k,λa a' b r r'=>r.1.trans r'.1.symm⟩;obtain⟨rfl,j⟩:=r;obtain⟨l,m,n⟩:=f.cells d.cl j i;grind
def cy.kX{n0:Nat}{w':aS}(h:cy M w w')(i:Home O P M Shun w):yb n0 (bQ M) w w':=by refine⟨h.carry i,λa b c e z r d=>?_,λa b r g=>r.1▸g,λa a' b r r'=>r.1.trans r'.1.symm⟩;obtain⟨rfl,f⟩:=r;exact⟨_,h.cells _ _ _ _ f d,Y⟩
variable{f:uaj}{a:Act}{k k':il}{cs:fV}{n0:Nat}
structure Held(O:gJ)(P:b4)(a6:dh)(w0:aS)(n0:Nat)(a:Act)(M:dh)(w:aS)(Shun:uam):Prop where
 fH:Home O P M Shun w
 sub:∀b,a6 b->M b
 since:lL w0 w
 keep:cy (λb=>a6 b/\b<n0) w0 w
 all:aJ (bQ M) a.tmps a.tmps
 defers:a.defers=[]
 size:n0<=w.heap.size
def Held.start(c:Home O P M Shun w)(hn:n0<=w.heap.size)(b:aJ (bQ M) a.tmps a.tmps)(hd:a.defers=[]):Held O P M w n0 a M w Shun:=⟨c,λ_ h=>h,.refl _,.refl _ _,b,hd,hn⟩
variable{a6:dh}{w0:aS}
theorem Held.at(h:Held O P a6 w0 n0 a M w Shun)(k:Nat):Held O P a6 w0 n0 a M (w.at k) Shun:=
 ⟨(h.fH.at _),h.sub,⟨h.since.size,h.since.later,h.since.output,h.since.tape⟩,h.keep,h.all,h.defers,h.size⟩
def Held.next(h:Held O P a6 w0 n0 a M w Shun){ρ:Ren}{f e w':aS}{T:Nat->Question->Nat}(j:gP (cY P) M (iR M) w f)(d:Behind O P M Shun w ρ e w')(c:Below n0 {f with tape:=T} e){a':Act}(i:aJ (bQ (pO ρ)) a'.tmps a'.tmps)(hd:a'.defers=[]):Held O P a6 w0 n0 a' (pO ρ) w' Shun:=
 ⟨d.fH,λb c=>d.mem (h.sub b c),h.since.trans d.since,h.keep.trans (M':=λb=>M b/\b<n0) (λb c=>⟨h.sub b c.1,c.2⟩) (d.Z0 h.fH j AA λb _ hn g=>(c.block b hn.2).trans g),i,hd,vad h.size d.since.size⟩
def Ng(o:(cY P).Good)(l:kA P f)(H:Held O P a6 w0 n0 a M w Shun)(hk:k.all (gr P)=true)(q:k'.all (gr P)=true){I J:uag}(m:pQ n0 I)(p:pQ n0 J)(h0:I a w)(hrun:∀W,n0<=W.heap.size->I a W->bI (ae P true) k k' (λa1 w1=>a1.defers=[]/\J a1 w1/\Below n0 W w1) a W)(r:∀a' M' w',Held O P a6 w0 n0 a' M' w' Shun->J a' w'->bP P Post n Shun 0 (a0 ((base f).at a' k') cs) w'):
 bP P Post n Shun 0 (a0 ((base f).at a k) cs) w:=by
 refine Z4 o H.fH l H.all H.defers hk q (Q:=λc a1 w1=>J a1 w1/\∃T,Below n0 {c with tape:=T} w1) (λc d T b cs=>?_) ?_
 .obtain⟨a1,w1,⟨j,i,g⟩,h⟩:=hrun {c with tape:=T} (by show n0<=c.heap.size;rw[d.size];exact H.size) (m _ _ _ _ _ (H.fH.kX d T) H.all h0) b cs;grind
 .rintro ρ c a1 w1 a' w' d ⟨j,T,i⟩ g h e;exact r a' (pO ρ) w' (H.next d e i (e.all g) h) (p _ _ _ _ _ (e.kX H.size) g j)
def Ju(r:(cY P).Good){fn:Func}(o:P.funcs[f]?=some fn)(m:iK P true fn=true)(p:fn.body=some hL)(H:Held O P a6 w0 n0 a M w Shun)(hk:k.all (gr P)=true){i:uaj}{aF:Act}{aC:eY}{aK:Nat}{aM:uaa}{aH:il}{csZ:fV}(hc:wK P a6 i aF aC aK aH){I:uag}{gZ:uaz}(q:pQ n0 I)(t:kg n0 gZ)(h0:I a w)(hrun:∀W,n0<=W.heap.size->I a W->rA (ae P true) fn k (λv w1=>gZ w1 v/\Below n0 W w1) a W)(s:∀u M' w',Home O P M' Shun w'->(∀b,a6 b->M' b)->ar (bQ M') u u->lL w0 w'->cy (λb=>a6 b/\b<n0) w0 w'->gZ w' u->bP P Post n Shun 0 (a0 ((base i).at (aF.put ((aC[aK]?).bind (·.dst)) u) (.inRegion aC aM::aH)) csZ) w'):
 bP P Post n Shun 0 (a0 ((base f).at a k) ((base i).at aF (.inRegion aC (aK::aM)::aH)::csZ)) w:=by
 refine aon r H.fH o m p H.all H.defers hk (hc.mono H.sub) (gZ:=λc v w1=>gZ w1 v/\∃T,Below n0 {c with tape:=T} w1) (λc e T f cs x=>?_) ?_
 .obtain⟨v,w1,fr,⟨l,j⟩,h,y⟩:=hrun {c with tape:=T} I2 (q _ _ _ _ _ (H.fH.kX e T) H.all h0) f cs x;grind
 .rintro ρ c v z u w' e ⟨l,T,j⟩ h g;have d:=H.next e g j (a':=⟨#[],[]⟩) ⟨Y,AA⟩ Y;exact s u (pO ρ) w' d.fH d.sub (g.val h) d.since d.keep (t _ _ _ _ _ (g.kX H.size) h l)
variable{ops:eY}{i:Nat}{rest:uaa}{o:Oper}
def S1{d:Nat}{g:uaj}{args:uaw}{ats:uaq}(l:o.op=.call {callee:=.value (.func g),args,argTypes:=ats})(hg:P.funcs[g]?=some dM)(s:(dM.name== "runtime.NumGoroutine")=false)(c:dM.body=some hL)(hn:n+16*d<=900000)(x:kA P f)(H:Held O P a6 w0 n0 a M w Shun)(hk:(Item.inRegion ops []::k).all (gr P)=true)(v:ops[i]?=some o)(E:o.guard=none){j:Tmp}(t:o.dst=some j/\j<a.tmps.size){I J:uag}{mX:uaz}(y:pQ n0 I)(h0:I a w)(r:∀k,gi O P Post g (args.map a.eval) M (w.at k) d (λu _ w'=>mX w' u/\cy M w w'))(C:∀u w',I a w'->mX w' u->J (a.put (some j) u) w')(D:∀a' M' w' e h,e<=n+16*d->Held O P a6 w0 n0 a' M' w' h->J a' w'->bP P Post e h 0 (a0 ((base f).at a' (.inRegion ops rest::k)) cs) w'):
 bP P Post n Shun 0 (a0 ((base f).at a (.inRegion ops (i::rest)::k)) cs) w:=by
 simp only[vbj,vaf]at hk;refine Z1 l hg s c Y hn H.fH ⟨x,.inl H.all,H.defers,hk.1,hk.2,AA⟩ v (ya E _) r ?_;rintro u M' w' e h B A m z q ⟨F,p⟩;rw[t.1];refine D _ M' w' e h B ⟨A,λb c=>m b (H.sub b c),H.since.trans q,H.keep.trans (λb c=>H.sub b c.1) p,?_,GH,vad H.size q.size⟩ (C u w' (y _ _ _ _ _ (p.kX H.fH) H.all h0) F);exact(H.all.mono (qx m)).set z _
def aor(R:(cY P).Good)(C:P.follows .mixedOrders=true)(v:kA P f)(hk:(Item.inRegion ops []::k).all (gr P)=true)(g:Nat){j:Oper}{d:Nat}{gf:uaj}{args:uaw}{ats:uaq}(t:ops[g]?=some j)(q:j.op=.call {callee:=.value (.func gf),args,argTypes:=ats})(B:P.funcs[gf]?=some dM)(F:(dM.name== "runtime.NumGoroutine")=false)(N:dM.body=some hL)(S:j.guard=none)(hn:n+16*d<=900000){I:Array Bool->Act->aS->Prop}(l:∀au,pQ n0 (I au)){p:Tmp}(Y:j.dst=some p)(Nh:∀au a w,I au a w->p<a.tmps.size){mX:uaz}(hsz:∀au a w,I au a w->au.size=ops.size)(H:Held O P a6 w0 n0 a M w Shun)(h0:I (Array.replicate ops.size false) a w)(hstep:∀au a W i o,I au a W->a.defers=[]->n0<=W.heap.size->i≠g->au.getD i true=false->ops[i]?=some o->(∀e∈o.after,Region.binds .any e=true->au.getD e.on false=true)->wpOps (ae P true) ops (jZ λa1 w1=>a1.defers=[]/\I (au.setIfInBounds i true) a1 w1/\Below n0 W w1) [i] a W)(D:∀au a M w Shun,Held O P a6 w0 n0 a M w Shun->I au a w->au.getD g false=false->(∀e∈j.after,Region.binds .any e=true->au.getD e.on false=true)->gi O P Post gf (args.map a.eval) M w d (λu _ w'=>mX w' u/\cy M w w'))(L:∀au a w u,I au a w->au.getD g false=false->(∀e∈j.after,Region.binds .any e=true->au.getD e.on false=true)->mX w u->I (au.setIfInBounds g true) (a.put (some p) u) w)(X:∀au a M' w' c A,I au a w'->Region.ready .any ops au=[]->c<=n+16*d->Held O P a6 w0 n0 a M' w' A->bP P Post c A 0 (a0 ((base f).at a (.inRegion ops []::k)) cs) w'){id:Nat}:bP P Post n Shun 0 (a0 ((base f).at a (.code (.region id ops true)::k)) cs) w:=by
 have Z:∀au a M w Shun k,Held O P a6 w0 n0 a M w Shun->I au a w->I au a (w.at k):=λau a M w Shun k H h=>l au _ _ _ _ _ ((cy.FY M w k).kX H.fH) H.all h;refine Z3 C (I:=λau a M w c Shun=>Held O P a6 w0 n0 a M w Shun/\I au a w/\c<=n+16*d/\(au.getD g false=false->c<=n)) (λau a M w c Shun k h=>⟨h.1.at k,AA,h.2.2⟩) ?_ AA ⟨H,h0,vcx _ _,λ_=>vac _⟩;intro au a M w c Shun i o rest ⟨H,hi,U,V⟩ E r m K;have E7:i<au.size:=by grind
 by_cases s:i=g
 .subst s;rw[t]at r;cases r;have x:au.getD i false=false:=by grind
  refine S1 q B F N AA v H hk t S AA (I:=I au) (J:=I (au.setIfInBounds i true)) (mX:=mX) (l au) hi (λk=>D au a M (w.at k) Shun (H.at k) AA x m) (λu w' z y=>L au a w' u z x m y) ?_;grind[rB]
 .refine Ng R v H (k:=.inRegion ops (i::rest)::k) (k':=.inRegion ops rest::k) CC CC (I:=I au) (J:=I (au.setIfInBounds i true)) (l au) (l _) hi (λW Q T b cs=>?_) ?_
  .obtain⟨a1,w1,z,y⟩:=Js rest [i] a W (hstep au a W i o T H.defers Q s E r m) b k cs;grind
  grind[rB]
end
end
section
open RowKit
section
variable{ρ:Ren}
theorem S2:∀{l b:uad},l.length=b.length->(∀(i:Nat)(v a:Value),l[i]?=some v->b[i]?=some a->ar ρ v a)->cE (ar ρ) l b
 | [],[],_,_=>.nil
 | [],_::_,hs,_=>AA
 | _::_,[],hs,_=>AA
 | _::_,_::_,hs,h=>.cons (h 0 _ _ Y Y) (S2 AA λi v a d c=>h (i+1) v a AA AA)
def Z7{l:uad}{b:dp}(hs:l.toArray.size=b.size)(h:∀(i:Nat)(v a:Value),l.toArray[i]?=some v->b[i]?=some a->ar ρ v a):∃c,b=c.toArray/\cE (ar ρ) l c:=by grind[S2]
def F0{l:uad}{u:Value}(h:ar ρ (.tuple l.toArray) u):∃a,u=.tuple a.toArray/\cE (ar ρ) l a:=by cases h with|tuple hs hg=>obtain⟨a,rfl,k⟩:=Z7 hs hg;grind
def sK{l:uad}{u:Value}(h:ar ρ (.agg l.toArray) u):∃a,u=.agg a.toArray/\cE (ar ρ) l a:=by cases h with|agg hs hg=>obtain⟨a,rfl,k⟩:=Z7 hs hg;grind
def hO{k:IntKind}{n:Int}{u:Value}(h:ar ρ (.int k n) u):u=.int k n:=by cases h;rfl
def S3{b:Bool}{u:Value}(h:ar ρ (.bool b) u):u=.bool b:=by cases h;rfl
def om{l c:Nat}{u:Value}(h:ar ρ (.slice none l c) u):u=.slice none l c:=by cases h;rfl
def wQ{b o l c:Nat}{u:Value}(h:ar ρ (.S b o l c) u):∃a,u=.S a o l c/\ρ.rel b a:=by cases h with|@slice _ a' _ _ r=>obtain⟨a,o',s'⟩:=a';obtain⟨f,e,d⟩:=r;grind
def Nj{a:uan}{l c:Nat}{u:Value}(h:ar ρ (.slice a l c) u):∃b,u=.slice b l c:=by cases h with|jP=>grind|slice=>grind
def F1{b o:Nat}{u:Value}(h:ar ρ (.P b o) u):∃a,u=.P a o/\ρ.rel b a:=by cases h with|@ptr _ a' r=>obtain⟨a,o',s'⟩:=a';obtain⟨e,d,c⟩:=r;grind
end
variable{n0:Nat}
def eB(x:Value)(_:aS)(v:Value):Prop:=v=x
theorem Ak(k:IntKind)(i:Int):kg n0 (eB (.int k i)):=λ_ _ _ _ _ _ hv h=>by cases h;exact hO hv
def aot(b:Bool):kg n0 (eB (.bool b)):=λ_ _ _ _ _ _ hv h=>by cases h;exact S3 hv
def aou:kg n0 (eB undef):=λ_ _ _ _ _ _ hv h=>by cases h;obtain⟨a,rfl,k⟩:=F0 (l:=[]) hv;cases k;rfl
def aov(a b:Int):kg n0 (eB (.agg #[.I a,.I b])):=λ_ _ _ _ _ _ hv h=>by
 cases h;obtain⟨e,rfl,k⟩:=sK hv;cases k with
 |cons d k=>cases k with
  |cons c k=>cases k;rw[hO d,hO c];rfl
def rC(R:uaz):Prop:=∀w w' v,cJ w w'->R w v->R w' v
def rC.eq(x:Value):rC (eB x):=λ_ _ _ _ h=>h
theorem S5(n j:Nat):(Array.replicate n false).getD j false=false:=by simp_all[Array.getD]
def kh{P:b4}{ops:eY}{Q:uai}{R:uag}{i:Nat}{rest:uaa}{a:Act}{w:aS}(h:wpOps P ops (jZ R) [i] a w)(k:∀a w,R a w->wpOps P ops Q rest a w):wpOps P ops Q (i::rest) a w:=by
 simp[wpOps]at h⊢;cases m:ops[i]? with
 |none=>simp[m]at h⊢;exact k _ _ h.2
 |some o=>
  simp[m]at h⊢;by_cases l:Region.wanted o (yielded ops a.tmps)=true
  .simp[l]at h⊢;rcases h with h|⟨-,j,b,hq⟩
   .refine .inl ?_;simp[Oper.wp,Oper.upon]at h⊢;generalize(execOp a.eval o).run P w=r at h⊢;cases r with
    |ok x w'=>
     cases x with
     |value v=>exact k _ _ h.2
     |skip=>exact k _ _ h.2
     |defer d=>exact k _ _ h.2
     |enter f args=>refine vco h ?_;intro e w'' g;cases e with|returned v=>exact k _ _ g.2|panicked c=>cases g.1|outgrown=>obtain⟨j,b,hq⟩:=g;cases hq.1
     |row r args=>exact Rows.mono h λ_ _ g=>k _ _ g.2
     | _=>exact h.elim
    |halt x w'=>cases x<;>first|exact h.elim|(cases h.1)
   .cases hq.1
  .simp[l]at h⊢;exact k _ _ h.2
theorem Z8{P:b4}{ops:eY}{Q:uag}{i:Nat}{o:Oper}{a:Act}{w w1:aS}{v:Value}(d:ops[i]?=some o)(b:Region.wanted o (yielded ops a.tmps)=true){s:Nat}(hd:o.dst=some s)(c:(execOp a.eval o).run P w=.ok (.value v) w1)(h:Q (a.put (some s) v) w1):wpOps P ops (jZ Q) [i] a w:=by simp[wpOps,d,b];refine .inl ?_;simp[Oper.wp,Oper.upon,c,hd];exact⟨Y,h⟩
def aow{P:b4}{ops:eY}{Q:uag}{i:Nat}{o:Oper}{a:Act}{w:aS}(d:ops[i]?=some o)(b:Region.wanted o (yielded ops a.tmps)=true){s:Nat}(hd:o.dst=some s){f:uaj}{args:dp}(c:(execOp a.eval o).run P w=.ok (.enter f args) w)(h:Calls P f args w λe w'=>∃v,e=.returned v/\Q (a.put (some s) v) w'):wpOps P ops (jZ Q) [i] a w:=by simp[wpOps,d,b];refine .inl ?_;simp[Oper.wp,Oper.upon,c,hd];refine h.mono ?_;rintro e w' ⟨v,rfl,h⟩;exact⟨Y,h⟩
def Z9{P:b4}{ops:eY}{Q:uag}{i:Nat}{o:Oper}{a:Act}{w:aS}(c:ops[i]?=some o)(b:Region.wanted o (yielded ops a.tmps)=false){s:Nat}(hd:o.dst=some s)(h:Q (a.put (some s) undef) w):wpOps P ops (jZ Q) [i] a w:=by simp[wpOps,c,b,hd];exact⟨Y,h⟩
section
variable{P:b4}{ops:eY}{Q:uag}{i:Nat}{o:Oper}{a:Act}{w w1:aS}{v:Value}
def rD(c:ops[i]?=some o)(d:o.guard=none){s:Nat}(hd:o.dst=some s)(b:(execOp a.eval o).run P w=.ok (.value v) w1)(h:Q (a.put (some s) v) w1):wpOps P ops (jZ Q) [i] a w:=Z8 c (ya d _) hd b h
def tV(c:ops[i]?=some o)(d:o.guard=none)(hd:o.dst=none)(b:(execOp a.eval o).run P w=.ok .skip w1)(h:Q a w1):wpOps P ops (jZ Q) [i] a w:=by simp[wpOps,c,ya d];refine .inl ?_;simp[Oper.wp,Oper.upon,b,hd];exact⟨Y,h⟩
end
def aox{ops:eY}{o:Oper}{tmps:dp}{g d:Nat}{b c:Bool}(hg:o.guard=some (g,b))(hd:(ops[g]?).bind (·.dst)=some d)(ht:tmps[d]?=some (.bool c)):Region.wanted o (yielded ops tmps)=(c==b):=by grind[Region.wanted,yielded]
def aoy{ops:eY}{o:Oper}{tmps:dp}{g d:Nat}{b:Bool}(hg:o.guard=some (g,b))(hd:(ops[g]?).bind (·.dst)=some d)(ht:tmps[d]?=some undef):Region.wanted o (yielded ops tmps)=false:=by unfold Region.wanted yielded;simp only[hg,hd,Option.bind_some,ht];cases b<;>rfl
def aoz{P:b4}{ops:eY}{Q:uai}{R K:uag}{i:Nat}{a:Act}{w:aS}(h:wpOps P ops (jZ R) [i] a w)(k:∀a w,R a w->K a w):wpOp P ops Q i K a w:=by
 rw[wpOps_cons]at h;have h:=wpOp_mono (K':=R) (λa w(n:wpOps P ops (jZ R) [] a w)=>n.2) h;unfold wpOp at h⊢;cases m:ops[i]? with
 |none=>grind
 |some o=>
  simp[m]at h⊢;by_cases l:Region.wanted o (yielded ops a.tmps)=true
  .simp[l]at h⊢;rcases h with h|⟨-,g,b,hq⟩
   .refine .inl ?_;simp[Oper.wp,Oper.upon]at h⊢;generalize(execOp a.eval o).run P w=r at h⊢;cases r with
    |ok x w'=>
     cases x with
     |value v=>grind
     |skip=>grind
     |defer d=>grind
     |enter f args=>refine vco h ?_;intro e w'' j;cases e with|returned v=>grind|panicked c=>cases j.1|outgrown=>obtain⟨g,b,hq⟩:=j;cases hq.1
     |row r args=>grind[Rows.mono]
     | _=>exact h.elim
    |halt x w'=>cases x<;>first|exact h.elim|(cases h.1)
   .cases hq.1
  grind
def ye{P:b4}{ops:eY}{ks ks':il}{Q:uag}{a:Act}{w:aS}{l:uaa}(h:wpOps P ops (jZ (bI P (.inRegion ops []::ks) ks' Q)) l a w):bI P (.inRegion ops l::ks) ks' Q a w:=λb cs=>by obtain⟨a1,w1,c,g⟩:=Js [] l a w h b ks cs;obtain⟨i,d,f,e⟩:=c b cs;grind[Steps.trans]
def Z_{P:b4}{id n:Nat}{ops:eY}{ks ks':il}{Q:uag}{a:Act}{w:aS}(hn:ops.size=n)(h:wpOps P ops (jZ (bI P (.inRegion ops []::ks) ks' Q)) (List.range' 0 n) a w):bI P (.code (.region id ops false)::ks) ks' Q a w:=sI (ye (hn▸h))
theorem rE{P:b4}{ops:eY}{ks ks':il}{Q:uag}{a:Act}{w:aS}(h:bI P ks ks' Q a w):wpOps P ops (jZ (bI P (.inRegion ops []::ks) ks' Q)) [] a w:=⟨Y,wO h⟩
theorem d_{a:Act}{t:Nat}{v:Value}(h:a.tmps[t]?=some v):a.eval (.tmp t)=v:=by simp[Act.eval,h]
theorem fY{a:Act}{t s:Nat}{v:Value}(h:t≠s):(a.put (some t) v).tmps[s]?=a.tmps[s]?:=by simp[Act.put,h]
def mY{a:Act}{t:Nat}{v:Value}(h:t<a.tmps.size):(a.put (some t) v).tmps[t]?=some v:=by simp[Act.put,h]
end
open RowKit
structure bb where
 R:aS->Value->Prop
 fZ:rC R
 ok:Nat->Prop
 ic:∀n,ok n->kg n R
def Jv(n:Nat):List (Nat×bb)->Prop
 | []=>True
 |p::l=>p.2.ok n/\Jv n l
abbrev bL:=Nat->Option bb
def up(K:bL)(s:Nat)(F:bb):bL:=λi=>if i=s then some F else K i
def a2:List (Nat×bb)->bL
 | [],_=>none
 |p::l,s=>if s=p.1 then some p.2 else a2 l s
structure af(N:Nat)(K:bL)(a:Act)(w:aS):Prop where
 size:a.tmps.size=N
 has:∀s F,K s=some F->∃v,a.tmps[s]?=some v/\F.R w v
def Cw(K:bL):List (Nat×bb)->Prop
 | []=>True
 |p::l=>K p.1=some p.2/\Cw K l
theorem TK{K:bL}:∀{l:List (Nat×bb)},Cw K l->∀s F,a2 l s=some F->K s=some F
 | [],_,_,_,h=>by cases h
 |p::l,hi,s,F,h=>by
  unfold a2 at h;split at h
  .rename_i e;rw[e,<-h];exact hi.1
  .exact TK hi.2 s F h
theorem iz{n:Nat}:∀{l:List (Nat×bb)},Jv n l->∀s F,a2 l s=some F->F.ok n
 | [],_,_,_,h=>by cases h
 |p::l,hi,s,F,h=>by
  unfold a2 at h;split at h
  .cases h;exact hi.1
  .exact iz hi.2 s F h
section
variable{N:Nat}{K K':bL}{a:Act}{w w1:aS}
def af.sub(h:af N K a w)(hs:∀s F,K' s=some F->K s=some F):af N K' a w:=⟨h.size,λs F e=>h.has s F (hs s F e)⟩
def af.aU{l:List (Nat×bb)}(h:af N K a w)(hs:Cw K l):af N (a2 l) a w:=h.sub (TK hs)
theorem af.fZ(h:af N K a w)(b:cJ w w1):af N K a w1:=⟨h.size,λs F e=>by
 obtain⟨v,d,c⟩:=h.has s F e;exact⟨v,d,F.fZ _ _ _ b c⟩⟩
theorem af.put(h:af N K a w){s:Nat}(hs:s<N)(b:cJ w w1){F:bb}{v:Value}(hv:F.R w1 v):af N (up K s F) (a.put (some s) v) w1:=by
 refine⟨GR,λi G e=>?_⟩;unfold up at e;split at e
 .rename_i hi;cases e;subst hi;exact⟨v,mY (by rw[h.size];exact hs),hv⟩
 .rename_i hi;obtain⟨x,d,c⟩:=h.has i G e;exact⟨x,(fY (Ne.symm hi)).trans d,G.fZ _ _ _ b c⟩
def jx(n:Nat)(hok:∀s F,K s=some F->F.ok n):pQ n (af N K):=by intro ρ a a' w w' hc b h;refine⟨by rw[<-b.size];exact h.size,λs F e=>?_⟩;obtain⟨v,i,g⟩:=h.has s F e;obtain⟨c,f,d⟩:=b.some i;exact⟨c,f,F.ic _ (hok s F e) _ _ _ _ _ hc d g⟩
end
def bh(K:bL):Operand->bb->Prop
 | .tmp s,F=>K s=some F
 | .const v,F=>∀w,F.R w v
 | _,_=>False
def af.ev{N:Nat}{K:bL}{a:Act}{w:aS}(h:af N K a w){x:uar}{F:bb}(b:bh K x F):F.R w (a.eval x):=by
 cases x with
 |tmp s=>obtain⟨v,d,c⟩:=h.has s F b;grind[d_]
 |const v=>exact b w
 | _=>exact b.elim
def yf(P:b4)(o:Oper)(F:bb)(a:Act)(w:aS):Prop:=
 (∃v w1,(execOp a.eval o).run P w=.ok (.value v) w1/\F.R w1 v/\cJ w w1)\/∃f args,(execOp a.eval o).run P w=.ok (.enter f args) w/\Calls P f args w λe w'=>∃v,e=.returned v/\F.R w' v/\cJ w w'
def bF(P:b4)(N:Nat)(K:bL)(o:Oper)(F:bb):Prop:=∀a w,af N K a w->yf P o F a w
def TJ{P:b4}{ops:eY}{i s:Nat}{o:Oper}{F:bb}{a:Act}{w:aS}(e:ops[i]?=some o)(d:Region.wanted o (yielded ops a.tmps)=true)(hd:o.dst=some s)(h:yf P o F a w):wpOps P ops (jZ λa1 w1=>(∃v,a1=a.put (some s) v/\F.R w1 v)/\cJ w w1) [i] a w:=by
 rcases h with⟨v,w1,c,b,g⟩|⟨f,args,c,b⟩
 .grind[Z8]
 .refine aow e d hd c (b.mono ?_);grind
def a5(n:Int):bb:=⟨eB (.I n),rC.eq _,λ_=>True,λ_ _=>Ak _ _⟩
def dV(b:Bool):bb:=⟨eB (.bool b),rC.eq _,λ_=>True,λ_ _=>aot _⟩
def nF:bb:=⟨eB undef,rC.eq _,λ_=>True,λ_ _=>aou⟩
def Nk(s:ByteArray):bb:=⟨eB (.string s),rC.eq _,λ_=>True,λ_ _ _ _ _ _ _ _ hv h=>by cases h;cases hv;rfl⟩
def e8(v:Value):bb:=⟨eB v,rC.eq _,λ_=>False,λ_ h=>h.elim⟩
def rF(ops:eY)(K:bL)(o:Oper)(c:Bool):Prop:=
 match o.guard with
 |none=>c=true
 |some (g,b)=>∃d,(ops[g]?).bind (·.dst)=some d/\((∃x,K d=some (dV x)/\c=(x==b))\/K d=some nF/\c=false)
def rF.is{ops:eY}{K:bL}{o:Oper}{c:Bool}{N:Nat}{a:Act}{w:aS}(h:rF ops K o c)(hk:af N K a w):Region.wanted o (yielded ops a.tmps)=c:=by
 unfold rF at h;split at h
 .grind[ya]
 .rename_i g b e;obtain⟨d,k,⟨x,j,rfl⟩|⟨j,rfl⟩⟩:=h
  .obtain⟨v,i,f⟩:=hk.has d _ j;cases f;exact aox e k i
  .obtain⟨v,i,f⟩:=hk.has d _ j;cases f;exact aoy e k i
def Nl(P:b4)(N:Nat)(ops:eY)(K:bL)(o:Oper)(F:bb):Prop:=(rF ops K o true/\bF P N K o F)\/(rF ops K o false/\F=nF)
theorem Nl.step{P:b4}{N:Nat}{ops:eY}{K:bL}{o:Oper}{F:bb}(h:Nl P N ops K o F){a:Act}{w:aS}{i s:Nat}(hk:af N K a w)(c:ops[i]?=some o)(hd:o.dst=some s):wpOps P ops (jZ λa1 w1=>(∃v,a1=a.put (some s) v/\F.R w1 v)/\cJ w w1) [i] a w:=by
 rcases h with⟨b,d⟩|⟨b,rfl⟩
 .exact TJ c (b.is hk) hd (d a w hk)
 .exact Z9 c (b.is hk) hd ⟨⟨undef,Y,Y⟩,vaa _ _⟩
def vc(P:b4)(N:Nat)(ops:eY):List Oper->bL->bL->Prop
 | [],K,K'=>K=K'
 |o::l,K,K'=>∃d,o.dst=some d/\d<N/\∃F,Nl P N ops K o F/\vc P N ops l (up K d F) K'
def aq{P:b4}{N:Nat}{ops:eY}{o:Oper}{l:uba}{K K':bL}{d:Nat}{F:bb}(hd:o.dst=some d)(a:bF P N K o F)(h:vc P N ops l (up K d F) K')(hg:o.guard=none:=by rfl)(a7:d<N:=by decide):vc P N ops (o::l) K K':=⟨d,hd,a7,F,.inl ⟨GU,a⟩,h⟩
def eV{P:b4}{N:Nat}{ops:eY}{o:Oper}{l:uba}{K K':bL}{d g t:Nat}{b:Bool}{F:bb}(hd:o.dst=some d)(a:bF P N K o F)(h:vc P N ops l (up K d F) K')(a7:d<N:=by decide)(hg:o.guard=some (g,b):=by rfl)(ht:(ops[g]?).bind (·.dst)=some t:=by rfl)(hk:K t=some (dV b):=by rfl):vc P N ops (o::l) K K':=⟨d,hd,a7,F,.inl ⟨GU,a⟩,h⟩
def Nm{P:b4}{N:Nat}{ops:eY}{o:Oper}{l:uba}{K K':bL}{d g t:Nat}{b c:Bool}(hd:o.dst=some d)(h:vc P N ops l (up K d nF) K')(a7:d<N:=by decide)(hg:o.guard=some (g,b):=by rfl)(ht:(ops[g]?).bind (·.dst)=some t:=by rfl)(hk:K t=some (dV c):=by rfl)(hc:(c==b)=false:=by rfl):vc P N ops (o::l) K K':=⟨d,hd,a7,nF,.inr ⟨GU,Y⟩,h⟩
theorem Nn{P:b4}{N:Nat}{ops:eY}{Q:uai}{rest:uaa}:∀{l:uba}{i:Nat}{K K':bL}{a:Act}{w:aS},vc P N ops l K K'->(∀j o,l[j]?=some o->ops[i+j]?=some o)->af N K a w->(∀a' w',af N K' a' w'->a'.defers=a.defers->cJ w w'->wpOps P ops Q rest a' w')->wpOps P ops Q (List.range' i l.length++rest) a w
 | [],i,K,K',a,w,h,_,hk,k=>by cases h;grind[Below.refl]
 |o::l,i,K,K',a,w,⟨d,hd,a7,F,c,h⟩,hi,hk,k=>by rw[vdm,List.range'_succ,List.cons_append];refine kh (c.step hk (hi 0 o Y) hd) ?_;rintro a1 w1 ⟨⟨v,rfl,hv⟩,b⟩;refine Nn h (λj o' m=>by have:=hi (j+1) o' AA;grind) (hk.put a7 b hv) λa' w' g f e=>k a' w' g (f.trans (put_defers _ _ _)) (b.trans (e.mono b.size))
def cD{P:b4}{N id:Nat}{ops:eY}{ks ks':il}{Q:uag}{K K':bL}{a:Act}{w:aS}(hk:af N K a w)(h:vc P N ops ops.toList K K')(k:∀a' w',af N K' a' w'->a'.defers=a.defers->cJ w w'->bI P ks ks' Q a' w'):bI P (.code (.region id ops false)::ks) ks' Q a w:=by refine Z_ (n:=ops.toList.length) Ad ?_;rw[<-vcb (List.range' 0 ops.toList.length)];grind[Nn,rE]
def vd(K:bL)(ops:eY)(acc:bL)(o:Oper):bL:=λs=>
 match o.after.toList.find? (λe=>Region.binds .any e&&((ops[e.on]?).bind (·.dst)==some s))with
 |some e=>acc e.on
 |none=>K s
def yg(tS:Nat->Oper->Option Nat)(bu:ubd)(X:Nat->bL->Oper->bb->Prop)(N:Nat):List Oper->Nat->bL->bL->bL->Prop
 | [],_,_,gz,K'=>gz=K'
 |o::l,j,acc,gz,K'=>∃d,tS j o=some d/\d<N/\∃F,X j acc o F/\yg tS bu X N l (j+1) (up acc j F) (if bu j then up gz d F else gz) K'
abbrev Al(P:b4)(N:Nat)(ops:eY)(K:bL):List Oper->Nat->bL->bL->bL->Prop:=yg (λ_ o=>o.dst) (λ_=>true) (λ_ acc o=>Nl P N ops (vd K ops acc o) o) N
section
variable{P:b4}{N:Nat}{ops:eY}{K:bL}{o:Oper}{l:uba}{j:Nat}{acc gz K':bL}{d:Nat}{F:bb}
def dq(hd:o.dst=some d)(a:bF P N (vd K ops acc o) o F)(h:Al P N ops K l (j+1) (up acc j F) (up gz d F) K')(hg:o.guard=none:=by rfl)(a7:d<N:=by decide):Al P N ops K (o::l) j acc gz K':=⟨d,hd,a7,F,.inl ⟨GU,a⟩,h⟩
def cG{g t:Nat}{b:Bool}(hd:o.dst=some d)(a:bF P N (vd K ops acc o) o F)(h:Al P N ops K l (j+1) (up acc j F) (up gz d F) K')(a7:d<N:=by decide)(hg:o.guard=some (g,b):=by rfl)(ht:(ops[g]?).bind (·.dst)=some t:=by rfl)(hk:vd K ops acc o t=some (dV b):=by rfl):Al P N ops K (o::l) j acc gz K':=⟨d,hd,a7,F,.inl ⟨GU,a⟩,h⟩
def dv{g t:Nat}{b c:Bool}(hd:o.dst=some d)(h:Al P N ops K l (j+1) (up acc j nF) (up gz d nF) K')(a7:d<N:=by decide)(hg:o.guard=some (g,b):=by rfl)(ht:(ops[g]?).bind (·.dst)=some t:=by rfl)(hk:vd K ops acc o t=some (dV c):=by rfl)(hc:(c==b)=false:=by rfl):Al P N ops K (o::l) j acc gz K':=⟨d,hd,a7,nF,.inr ⟨GU,Y⟩,h⟩
theorem yg.all{b:Nat->Oper->Option Nat}{g:ubd}{X:Nat->bL->Oper->bb->Prop}:∀{l:uba}{j:Nat}{acc gz:bL},yg b g X N l j acc gz K'->∃cS:Nat->bb,(∀i o,l[i]?=some o->∃d,b (j+i) o=some d/\d<N/\X (j+i) (λs=>if j<=s/\s<j+i then some (cS s)else acc s) o (cS (j+i)))/\∀s F,K' s=some F->(∃i o,l[i]?=some o/\b (j+i) o=some s/\F=cS (j+i)/\g (j+i)=true)\/gz s=some F
 | [],j,acc,gz,h=>by cases h;exact⟨λ_=>nF,λi o hi=>AA,λs F h=>.inr h⟩
 |o::l,j,acc,gz,⟨d,hd,a7,F,u,h⟩=>by
  obtain⟨cS,r,q⟩:=yg.all h;refine⟨λs=>if s=j then F else cS s,λi o' hi=>?_,λs G p=>?_⟩
  .cases i with
   |zero=>simp at hi;subst hi;refine⟨d,hd,a7,?_⟩;have e:(λs=>if j<=s/\s<j+0 then some (if s=j then F else cS s)else acc s)=acc:=funext λs=>vbq AP;grind
   |succ i=>
    have a:j+1+i=j+(i+1):=AP;obtain⟨t,f,c,n⟩:=r i o' AA;refine⟨t,a▸f,c,?_⟩;have e:(λs=>if j<=s/\s<j+(i+1)then some (if s=j then F else cS s)else acc s)=(λs=>if j+1<=s/\s<j+1+i then some (cS s)else up acc j F s):=funext λs=>by grind[up]
    grind
  .rcases q s G p with⟨i,o',f,c,n,m⟩|k
   .have a:j+1+i=j+(i+1):=by omega
    exact .inl ⟨i+1,o',AA,a▸c,AA,a▸m⟩
   .split at k
    .unfold up at k;split at k
     .rename_i hk e;cases k;exact .inl ⟨0,o,Y,AA,Ad,hk⟩
     grind
    .exact .inr k
end
def o0(n i:Nat):Array Bool:=((List.range n).map λj=>decide (j<i)).toArray
def aoA{n i j:Nat}(h:j<n):(o0 n i).getD j false=decide (j<i):=by simp[o0,Array.getD,h]
theorem TI{n i:Nat}(h:i<n):(o0 n i).setIfInBounds i true=o0 n (i+1):=by
 apply vdb;intro j;rw[vak];by_cases e:i=j
 .grind[o0]
 .rw[vbq e];grind[o0]
theorem aoB{n:Nat}:∀{m:Nat},m<=n->(o0 n m).toList.count false=n-m:=by
 have key:∀k m,m<=n->n-m=k->(o0 n m).toList.count false=k:=by intro k;induction k with|zero=>grind[List.count_eq_zero,o0]|succ k a=>intro m d c;have b:=count_set (au:=o0 n m) (i:=m) (by simp[o0,Array.getD];omega);grind[TI]
 grind
structure F2(N:Nat)(ops:eY)(K:bL)(cS:Nat->bb)(au:uat)(a:Act)(w:aS):Prop where
 len:au.size=ops.size
 base:af N K a w
 val:∀(j:Nat) o d,ops[j]?=some o->o.dst=some d->au.getD j false=true->∃v,a.tmps[d]?=some v/\(cS j).R w v
structure Jw(N m:Nat)(ops:eY)(K:bL)(cS:Nat->bb)(D:List Deferred)(db:aS)(au:uat)(a:Act)(w:aS):Prop extends F2 N ops K cS au a w where
 defers:a.defers=D
 S6:cJ db w
 most:∀j,au.getD j false=true->j<m
 down:∀(j:Nat) o,ops[j]?=some o->au.getD j false=true->∀e∈o.after,Region.binds .any e=true->au.getD e.on false=true
def F2.env{N:Nat}{ops:eY}{K:bL}{cS:Nat->bb}{au:uat}{a:Act}{w:aS}(h:F2 N ops K cS au a w){o:Oper}{acc:bL}(g:∀s F,acc s=some F->F=cS s)(f:∀e∈o.after,Region.binds .any e=true->au.getD e.on false=true):af N (vd K ops acc o) a w:=by
 refine⟨h.base.size,λs F e=>?_⟩;unfold vd at e;split at e
 .rename_i x c;have b:=List.find?_some c;have i:=List.mem_of_find?_eq_some c;simp at b;have hF:=g _ _ e;subst hF;cases d:ops[x.on]? with|none=>grind|some o'=>simp[d]at b;exact h.val _ o' s d b.2 (f x AA b.1)
 .exact h.base.has s F e
theorem F2.put{N:Nat}{ops:eY}{K:bL}{cS:Nat->bb}{au:uat}{a:Act}{w w1:aS}(h:F2 N ops K cS au a w){j:Nat}{o:Oper}{d:Nat}(q:ops[j]?=some o)(hd:o.dst=some d)(a7:d<N)(hK:K d=none)(p:∀i o',ops[i]?=some o'->o'.dst=some d->au.getD i false=true->i=j)(l:cJ w w1){v:Value}(hv:(cS j).R w1 v):F2 N ops K cS (au.setIfInBounds j true) (a.put (some d) v) w1:=by
 have r:j<au.size:=FU;refine⟨E3,⟨by rw[iS];exact h.base.size,λs F e=>?_⟩,λi o' m f c n=>?_⟩
 .obtain⟨x,k,g⟩:=h.base.has s F e;have b:d≠s:=λx=>AA;exact⟨x,(fY b).trans k,F.fZ _ _ _ l g⟩
 .by_cases e:i=j
  .subst e;rw[q]at f;cases f;rw[hd]at c;cases c;exact⟨v,mY (by rw[h.base.size];exact a7),hv⟩
  .have hi:=((rB r).1 n).resolve_left e;obtain⟨x,k,g⟩:=h.val i o' m f c hi;have b:d≠m:=λx=>by subst x;exact e (p i o' f c hi)
   exact⟨x,(fY b).trans k,(cS i).fZ _ _ _ l g⟩
def An(ops:eY)(j i:Nat):Bool:=match ops[j]? with|some o=>o.after.any λe=>Region.binds .any e&&e.on==i|none=>false
def pR(K:bL)(l:uba):Bool:=l.all λo=>match o.dst with|some d=>(K d).isNone|none=>true
def No(ops:eY)(m:Nat):Bool:=
 decide (m<=ops.size)&&
 ((List.range m).all λi=>(List.range m).all λj=>i==j||(ops[i]?).bind (·.dst) != (ops[j]?).bind (·.dst))&&
 ((List.range m).all λi=>m==ops.size||(List.range (m+1)).any λj=>decide (i<j)&&An ops j i)&&
 ((List.range ops.size).all λj=>decide (j<=m)||(List.range ops.size).any λe=>decide (m<=e)&&An ops j e)&&
 ((List.range ops.size).all λj=>match ops[j]? with|some o=>o.after.all λe=> !Region.binds .any e||decide (e.on<j)|none=>true)&&
 ((List.range (ops.size+1)).all λj=>decide (j<m)||Region.ready .any ops (o0 ops.size j)==if j<ops.size then [j]else [])
section
variable{ops:eY}{m:Nat}
structure Shape(ops:eY)(m:Nat):Prop where
 le:m<=ops.size
 one:∀(i j:Nat) o o' d,i<m->j<m->ops[i]?=some o->ops[j]?=some o'->o.dst=some d->o'.dst=some d->i=j
 aoC:m<ops.size->∀i,i<m->∃j,i<j/\j<=m/\An ops j i=true
 far:∀j,j<ops.size->m<j->∃e,m<=e/\An ops j e=true
 yh:(List.range ops.size).all (λj=>match ops[j]? with|some o=>o.after.all λe=> !Region.binds .any e||decide (e.on<j)|none=>true)=true
 next:∀j,m<=j->j<=ops.size->Region.ready .any ops (o0 ops.size j)=if j<ops.size then [j]else []
theorem Shape.of(h:No ops m=true):Shape ops m:=by
 unfold No at h;simp only[vaf,List.all_eq_true,List.mem_range,Bool.or_eq_true,decide_eq_true_eq,beq_iff_eq,bne_iff_ne,List.any_eq_true]at h;obtain⟨⟨⟨⟨⟨c,k⟩,g⟩,f⟩,q⟩,p⟩:=h;refine⟨c,λi j o o' d hi b e n hd l=>?_,λa i hi=>?_,λj b a=>?_,?_,λj a b=>?_⟩
 .grind
 .grind
 .grind
 .grind
 grind
def S8{j i:Nat}(h:An ops j i=true):∃o,ops[j]?=some o/\∃e∈o.after,Region.binds .any e=true/\e.on=i:=by grind[An]
variable{P:b4}{N:Nat}{K K':bL}{cS:Nat->bb}{D:List Deferred}{db:aS}{au:uat}{a:Act}{w w1:aS}{Q:uai}
theorem Jw.put(h:Jw N m ops K cS D db au a w)(hK:pR K (ops.toList.take m)=true)(hS:Shape ops m){j:Nat}{o:Oper}{d:Nat}(q:j<m)(g:ops[j]?=some o)(hd:o.dst=some d)(a7:d<N)(s:∀e∈o.after,Region.binds .any e=true->au.getD e.on false=true)(k:cJ w w1){v:Value}(hv:(cS j).R w1 v):Jw N m ops K cS D db (au.setIfInBounds j true) (a.put (some d) v) w1:=by
 have c:j<au.size:=FU;refine⟨h.toF2.put g hd a7 (by cases r:K d with|none=>rfl|some F=>grind[pR,List.mem_take_iff_getElem]) (λi o' f n b=>hS.one i j o' o _ (h.most i b) q f g n hd) k hv,GA,h.S6.trans (k.mono h.S6.size),λi hi=>?_,λi o' f b e l p=>?_⟩
 .rcases(rB c).1 hi with rfl|hi
  .grind
  .exact h.most i hi
 .refine(rB c).2 (.inr ?_);rcases(rB c).1 b with rfl|hi
  .grind
  .exact h.down i o' f hi e l p
theorem S7(hS:Shape ops m):∀(k j fuel:Nat)(a:Act)(w:aS),m<=j->j+k=ops.size->k<=fuel->wpOps P ops Q (List.range' j k) a w->wpAny P .any ops Q fuel (o0 ops.size j) a w
 |0,j,fuel,a,w,c,d,_,h=>by have b:=hS.next j c AP;rw[vbq AP]at b;cases fuel with|zero=>exact⟨b,h⟩|succ fuel=>exact⟨λ_=>h,λi hi=>AA⟩
 |k+1,j,fuel,a,w,c,d,l,h=>by have b:=hS.next j c AP;rw[vby AP]at b;obtain⟨fuel,rfl⟩:∃f,fuel=f+1:=⟨fuel-1,AP⟩;refine⟨λe=>(by rw[b]at e;cases e),λi hi=>?_⟩;rw[b]at hi;simp at hi;subst hi;rw[List.range'_succ,wpOps_cons]at h;rw[TI AP];exact wpOp_mono (λa w g=>S7 hS k (i+1) fuel a w AP AP AP g) h
def S4{id:Nat}{l:Act}(h:Al P N ops K (ops.toList.take m) 0 (λ_=>none) K K')(hk:af N K l db)(hK:pR K (ops.toList.take m)=true)(R:P.follows .mixedOrders=true)(T:No ops m=true)(k:∀a' w',af N K' a' w'->a'.defers=l.defers->cJ db w'->wpOps P ops Q (List.range' m (ops.size-m)) a' w'):(Code.region id ops true).wp P Q l db:=by
 have hS:=Shape.of T;obtain⟨cS,t,r⟩:=yg.all h;refine wp_region_any R ?_;have dK:∀fuel(au:uat) a w,au.toList.count false<=fuel->Jw N m ops K cS l.defers db au a w->(∀j,j<m->au.getD j false=true)->wpAny P .any ops Q fuel au a w:=λfuel au a w V h z=>by
  have e:au=o0 ops.size m:=by
   apply Array.ext (by rw[h.len];simp[o0]);intro j t r;have Y:(o0 ops.size m).getD j false=decide (j<m):=aoA (by rw[<-h.len];exact t);have X:au.getD j false=decide (j<m):=by
    by_cases c:j<m
    .grind
    .cases q:au.getD j false with|false=>grind|true=>exact absurd (h.most j q) c
   simp_all
  subst e;refine S7 hS (ops.size-m) m fuel a w JT (by have:=hS.le;omega) (by grind[aoB]) (k a w ⟨h.base.size,λs F e=>?_⟩ h.defers h.S6);rcases r s F e with⟨i,o,U,L,rfl,-⟩|k
  .rw[vbm];have E:ops[i]?=some o/\i<m:=by grind
   exact h.val i o s E.1 L (z i E.2)
  .exact h.base.has s F k
 have key:∀(fuel:Nat)(au:uat)(a:Act)(w:aS),au.toList.count false<=fuel->Jw N m ops K cS l.defers db au a w->wpAny P .any ops Q fuel au a w:=by
  intro fuel;induction fuel with
  |zero=>
   intro au a w hc h;refine dK 0 au a w hc h λj c=>?_;have:¬au.getD j true=false:=λe=>by grind[count_set]
   have:j<au.size:=by rw[h.len];have:=hS.le;omega
   grind
  |succ fuel M=>
   intro au a w hc h;by_cases z:∀j,j<m->au.getD j false=true
   .grind
   have step:∀i,i∈Region.ready .any ops au->i<m:=λi hi=>by
    obtain⟨g1,o,g,y⟩:=mem_ready.1 hi;apply vaw;intro I;have p:i<ops.size:=(vas.1 g).1;rcases vdd m i with n|n
    .obtain⟨e,W,S⟩:=hS.far i p n;obtain⟨o',u,x,b,f,rfl⟩:=S8 S;rw[g]at u;cases u;have:=h.most _ (y x b f);omega
    .obtain rfl:i=m:=by omega
     refine z λj c=>?_;have key:∀d j,i-j<=d->j<i->au.getD j false=true:=by
      intro d;induction d with
      |zero=>grind
      |succ d C=>
       intro j t r;obtain⟨A,Z,bn,J⟩:=hS.aoC p j r;obtain⟨o',u,x,b,f,rfl⟩:=S8 J;rcases vdd A i with D|D
       .exact h.down A o' u (C A AP D) x b f
       grind
     exact key _ j JT c
   have B:Region.ready .any ops au≠[]:=λO=>z λj c=>Z6 hS.yh h.len O j (by have:=hS.le;omega);refine⟨λe=>absurd e B,λi hi=>?_⟩;have I:=step i hi;obtain⟨g1,o,g,y⟩:=mem_ready.1 hi;obtain⟨d,hd,a7,b⟩:=t i o AA;rw[vbm]at b;refine aoz (b.step (h.env (λs F e=>?_) y) g hd) ?_
   .grind
   .rintro a1 w1 ⟨⟨v,rfl,hv⟩,f⟩;exact M _ _ _ (by grind[count_set]) (h.put hK hS I g hd a7 y f hv)
 have H:cJ db {db with drawn:=db.drawn+1}:=⟨rfl,rfl,rfl,vac _,λ_ _=>rfl⟩;refine key _ _ _ _ Ad ⟨⟨Ad,hk.fZ H,λj o d _ _ q=>?_⟩,rfl,H,λj q=>?_,λj o _ q=>?_⟩;all_goals grind[S5]
def wR{id:Nat}{ks ks':il}{Q:uag}(hk:af N K a w)(h:Al P N ops K (ops.toList.take m) 0 (λ_=>none) K K')(hK:pR K (ops.toList.take m)=true)(b:P.follows .mixedOrders=true)(c:No ops m=true)(k:∀a' w',af N K' a' w'->a'.defers=a.defers->cJ w w'->wpOps P ops (jZ (bI P ks ks' Q)) (List.range' m (ops.size-m)) a' w'):bI P (.code (.region id ops true)::ks) ks' Q a w:=Cu (S4 h hk hK b c k)
end
end a3
namespace pT
open Conc ConcM ax bp ag iu gg jd cI
abbrev fb:fc where
 Lo:=Unit
 aO:=Unit
 a_:=λ_=>0
 pD:=λ_ ls=>ls.length=1
 dZ:=λ_ _ _=>True
 K:=λ_=>False
 gT:=λ_=>False
 tq:=λ_ _=>True
 tok:=λ_=>false
 deaf:=λ_=>0
 past:=λ_=>false
 Left:=λ_=>False
 zero:=λ_=>False
 n7:=λ_ _=>False
 gS:=λ_=>False
 eZ:=λ_=>False
 mu:=⟨0,0,none⟩
 wg:=⟨0,0,none⟩
 oK:=λ_ _ _=>False
def tZ:fb.Good where
 refl:=AA
 trans:=AA
 less:=AA
 mt:=AA
 np:=AA
 one:=AA
 nW:=λ_ ls h=>⟨0,(),by
  grind,λh=>h,λh=>h⟩
 zero:=AA
 Fe:=AA
 BD:=AA
 tp:=AA
section
variable{P:b4}{Shun:uam}{Stop:uav}{d:Nat}
theorem PY{mine:dh}{B:Nat}:∀(es:ubi)(d:Nat),oL fb () mine d es->(∀e∈es,¬we fb e)->(∀b,mine b->∀l,fg l=some b->¬Shun l)->(∀b,mine b->b<B)->(∀e∈es,oW Shun B e)/\∀k,deafBehind k es.toArray=k
 | [],_,_,_,_,_=>⟨Ad,λ_=>Y⟩
 |e::es,d,h,i,hs,j=>by
  obtain⟨o,n⟩:=PY es _ h.2 AA hs j;have c:=h.1;have f:=i e Ad;have hk:xB (λ_=>False) mine e:=by
   unfold tr at c;unfold xB;cases g:e.loc with
   |cell a=>grind
   |obj r=>grind
   |output=>trivial
   |goroutines=>grind
   |mark m=>
    rw[g]at c;rcases c with c|⟨c,_⟩
    .cases m with|noRoom=>trivial|extern _=>trivial|disable=>exact absurd (.inl g) f|enable=>exact absurd (.inr (.inl g)) f| _=>exact c.elim
    grind
  refine⟨λu q=>?_,λk=>?_⟩
  .grind[ZG]
  .have t:deafBehind k (e::es).toArray=deafBehind (deafBehind k #[e]) es.toArray:=by simp[deafBehind]
   have s:deafBehind k #[e]=k:=by
    obtain⟨loc,wr,p⟩:=e;cases loc with
    |mark m=>cases m<;>first|exact hk.elim|rfl
    | _=>rfl
   grind
def apW{ST:Bool->fb.Lo->aV->Prop}{m:Bool}{l:fb.Lo}{γ:fb.aO}{X:aV}(h:bg fb P ST m l γ X):m=true->(∀b,X.mine b->b<X.w.heap.size)->(∀b,X.mine b\/X.w.heap.size<=b->∀l,fg l=some b->¬Shun l)->
 (∀Y,ST true () Y->cI.Left X Y->eQ P Shun Stop d Y.g Y.w)->eQ P Shun Stop d X.g X.w:=by
 induction h with
 |@stop m l γ X h=>rintro rfl _ _ k;exact k X h ⟨λ_ h=>h,λ_ _ _=>rfl,AA,vac _,.refl _,rfl,rfl,id⟩
 |@step m l γ X hs ch ok hq o v hc t A z y=>
  rintro rfl w x k;refine eQ.mk hs λn=>?_;have hrel:dQ fb l γ X (X.w.at n):=⟨⟨λ_ _=>rfl,vac _,.refl _⟩,PJ,⟨[l],0,rfl,rfl⟩,.refl _,rfl,rfl⟩;rcases ok (X.w.at n) γ trivial hrel with⟨g1,w1,es,e,q⟩|⟨g1,w1,es,e,q,_⟩|⟨_,_,q,_⟩|⟨_,g1,c,w1,es,e,q⟩
  .have hsz:X.w.heap.size<=w1.heap.size:=q.keep.size;have r:∀b,grown X.mine (X.w.at n) w1 b->X.mine b\/(X.w.heap.size<=b/\b<w1.heap.size):=λb h=>h;have s:∀b,grown X.mine (X.w.at n) w1 b->∀l,fg l=some b->¬Shun l:=AA;have g:∀b,grown X.mine (X.w.at n) w1 b->b<w1.heap.size:=AA;obtain⟨i,f⟩:=PY (Shun:=Shun) (B:=w1.heap.size) es.toList 0 q.evs (λe o u=>q.low (.inl AA)) s g;refine⟨g1,w1,es,e,AA,hsz,?_⟩;have p:deafBehind d es=d:=f d;rw[p];refine t (X.w.at n) γ g1 w1 es trivial hrel e q.run q.low rfl g AA (λY j a=>k Y j ?_);refine⟨λb h=>a.sub b (.inl h),λb i f=>(a.kept b AA λh=>?_).trans (q.keep.kept b i f Kx),λb h=>?_,vad hsz a.size,(show OsLater X.w.os w1.os from q.keep.os).trans a.os,a.output.trans q.keep.output,a.tape.trans q.keep.tape,λ_=>a.run q.run⟩
   .grind
   .rcases a.new b h with h|h
    .rcases r b h with h|h
     .grind
     .exact .inr ⟨h.1,vap h.2 a.size⟩
    grind
  .exact absurd q.zU.1 AA
  .grind
  .exact absurd q.a_ AA
end
end pT
namespace pT
open Conc ConcM ax bp ag iu gg jd
section
section
variable{Z:fc}{Q:b4}{Stop:Bool->Z.Lo->aV->Prop}{m:Bool}{b:Frame}{ops:eY}{l:Z.Lo}{M:dh}{w0:aS}{bs:uap}
def jL(Z:fc)(l:Z.Lo)(M:dh)(w0:aS)(bs:uap):cO Z:=⟨l,cd M bs,λw _=>af Z M w0 bs w⟩
def NH:sm (jL Z l M w0 bs):=λ_ _ _ _ _ h _ a=>af.on h (dQ.rw a)
def CD(x:ubp)(M:dh)(w0:aS)(bs:uap):Prop:=x∈bs\/(M x.1/\w0.heap[x.1]?=some x.2)
theorem CD.at{x:ubp}(h:CD x M w0 bs){w:aS}(hk:af Z M w0 bs w):cd M bs x.1/\w.heap[x.1]?=some x.2:=by
 rcases h with h|⟨a,b⟩
 .exact⟨.inr AA,hk.c8 x h⟩
 .exact⟨.inl a,(hk.rw.heap x.1 (.inr a)).trans b⟩
def CD.cons{x y:ubp}(h:CD x M w0 bs):CD x M w0 (y::bs):=h.imp AA id
def NI(Z:fc)(l:Z.Lo)(xs:uap)(σ:cO Z):Prop:=∃M w0 bs,(∀x∈xs,CD x M w0 bs)/\σ=jL Z l M w0 bs
def NJ{xs:uap}:∀σ,NI Z l xs σ->sm σ:=by rintro _ ⟨M,w0,bs,_,rfl⟩;exact NH
def apX{xs:uap}:∀σ,NI Z l xs σ->∀w γ,σ.S w γ->σ.S {w with drawn:=w.drawn+1} γ:=by rintro _ ⟨M,w0,bs,_,rfl⟩ w γ h;exact⟨h.rw.trans ⟨λ_ _=>Y,vac _,.refl _,Y,Y⟩,h.c8,h.lt,h.fd,h.sr,h.ib,h.uF⟩
def PV(n:Z.past l=false){xs:uap}{z:ubp}(j:z∈xs){o:Oper}{v:Value}{a:Act}(c:Region.wanted o (yielded ops a.tmps)=true)(h:∀w,w.heap[z.1]?=some z.2->(execOp a.eval o).run Q w=.ok (.value v) w/\∀e∈listed Q b.fn a o w,∃off,e=⟨.cell ⟨z.1,off,none⟩,false,false⟩):nu Q b ops (NI Z l xs) o v a:=by
 refine .inl ⟨c,?_⟩;rintro _ ⟨M,w0,bs,k,rfl⟩ w γ w' t g hS p m;have hJ:=NH (Z:=Z) (l:=l) w γ w' t g hS p m;obtain⟨s,q⟩:=(k z j).at hJ;obtain⟨r,i⟩:=h w' q;refine⟨r,zV _ _ λe f d=>?_,?_⟩
 .obtain⟨off,rfl⟩:=i e AA;exact .inl ⟨Y,.inr (.inl s),n⟩
 .rintro⟨e,f,c⟩;obtain⟨off,rfl⟩:=i e f;rcases c with c|c|⟨_,c⟩|⟨_,c⟩|⟨c,_⟩<;>cases c
def Tr(d:∀b,Z.K b->¬Z.gT b){o:Oper}{ob:Obj}{a:Act}{K:cO Z->Act->Prop}(h:∀w,(execOp a.eval o).run Q w=.ok (.value (.P w.heap.size 0)) (w.alloc ob)/\listed Q b.fn a o w=#[])(k:∀n,K (jL Z l M w0 ((n,ob)::bs)) (a.put o.dst (.P n 0))):BS Q b o (jL Z l M w0 bs) a K:=by
 intro w γ w' m g hS f e;have hJ:af Z M w0 bs w':=NH (Z:=Z) (l:=l) w γ w' m g hS f e;obtain⟨j,i⟩:=h w';refine⟨_,_,jL Z l M w0 ((w'.heap.size,ob)::bs),.inl j,⟨?_,?_,.inl ⟨Y,hJ.alloc d ob,λb c _=>BW c,?_,?_⟩⟩,k _⟩
 .show cd M ((w'.heap.size,ob)::bs)=grown (cd M bs) w' (w'.alloc ob);rw[RS];exact cd.cons.symm
 .exact⟨λb c _ _=>BW c,BK,.refl _,Y,Y⟩
 .rw[i];exact trivial
 grind
def Ts(r:Z.past l=false){pre post:uap}{b0:Nat}{bd new:dp}{t:g4}{o:Oper}{a:Act}{K:cO Z->Act->Prop}(h:∀w,w.heap[b0]?=some (.cells bd t)->(execOp a.eval o).run Q w=.ok .skip (w.setRow b0 new)/\∀e∈listed Q b.fn a o w,∃off,e.loc=.cell ⟨b0,off,none⟩/\e.sync=false)(k:K (jL Z l M w0 (pre++(b0,.cells new t)::post)) (a.put o.dst undef)):BS Q b o (jL Z l M w0 (pre++(b0,.cells bd t)::post)) a K:=by
 intro w γ w' u g hS s q;have hJ:af Z M w0 (pre++(b0,.cells bd t)::post) w':=NH (Z:=Z) (l:=l) w γ w' u g hS s q;have f:cd M (pre++(b0,Obj.cells bd t)::post) b0:=.inr Ad;have y:cd M (pre++(b0,Obj.cells new t)::post)=cd M (pre++(b0,Obj.cells bd t)::post):=by grind[cd]
 obtain⟨x,n⟩:=h w' (hJ.c8 (b0,.cells bd t) Ad);have hg:grown (cd M (pre++(b0,Obj.cells bd t)::post)) w' (w'.setRow b0 new)=cd M (pre++(b0,Obj.cells bd t)::post):=kR (setRow_size _ _ _);refine⟨_,_,jL Z l M w0 (pre++(b0,.cells new t)::post),AA,⟨?_,?_,.inl ⟨Y,hJ.row,λb v i=>z3 _ _ ?_,?_,?_⟩⟩,k⟩
 .show cd M (pre++(b0,.cells new t)::post)=grown (cd M (pre++(b0,Obj.cells bd t)::post)) w' (w'.setRow b0 new);grind
 .exact⟨λk _ hk _=>z3 _ _ λe=>hk (e▸f),vbr (setRow_size _ _ _).symm,.refl _,Y,Y⟩
 .rintro rfl;exact hJ.fd b (.inr f) i
 .refine zV _ _ λe m d=>?_;obtain⟨off,j,p⟩:=n e AA;unfold tr;rw[j];refine .inl ⟨p,.inr (.inl ?_),r⟩;show grown (cd M (pre++(b0,Obj.cells bd t)::post)) w' (w'.setRow b0 new) b0;simp_all
 .rintro⟨e,m,c⟩;obtain⟨off,j,p⟩:=n e m;rcases c with c|c|⟨_,c⟩|⟨_,c⟩|⟨_,k,hk,i⟩
  .grind
  .grind
  .grind
  .grind
  .rw[j]at hk;cases hk;exact hJ.fd b0 (.inr f) i
end
end
end pT
namespace jd
open Conc RowKit Conc.Lib ConcR.Gen ConcM ax bp ag fq iu gg
theorem zf:(f83.name== "runtime.NumGoroutine")=false:=by kernel_rfl
theorem asl:(f84.name== "runtime.NumGoroutine")=false:=by kernel_rfl
section
variable{c:dD}{Stop:Bool->ag.Lo At->aV->Prop}{fr aU:uas}{gH:Value}{cW:uaf}
theorem oe.step(d:∀T v M w M' w',cW T v M w->(∀b,c.K b\/M b->w'.heap[b]?=w.heap[b]?)->(∀b,M b->M' b)->cW T v M' w'){q:uae}{M M':dh}{w w':aS}(h:oe c cW q M w)(a:iv (am (az c)) M w M' w'):oe c cW q M' w':=λx e f=>d _ _ _ _ _ _ (h x e f) a.rw.heap a.sub
section
variable{a4:Frame}{aF:Act}{aC:eY}{aK:Nat}{aM:uaa}{aH:il}{csZ:fV}
def asm{f:Nat}{M:dh}{w0 cb:aS}(hI:pJ c cb w0)(U:∀T v M w M' w',cW T v M w->(∀b,c.K b\/M b->w'.heap[b]?=w.heap[b]?)->(∀b,M b->M' b)->cW T v M' w')(N2:∀q k w1,af (am (az c)) k w1 [] w1->jJ prog Stop false 83 #[.P c.st 0] (fE c ⟨.idle,false,0,f+15,.work .free q⟩ k w1) (λu V=>(u=.tuple #[.agg #[.I 0,.I 0,.I 0],.F]/\V=wu c ⟨.idle,false,0,f+1,.work .free q⟩ k w1)\/∃T,T<c.N/\u=.tuple #[.agg #[.I (T:Int),.I (fr T:Int),.I (aU T:Int)],.T]/\V=fE c ⟨.idle,false,0,f+31,.work (.has T) q⟩ k w1))(Ua:∀q T k w1,T<c.N->pJ c cb w1->jJ prog Stop false 84 #[.P c.st 0,gH,.agg #[.I (T:Int),.I (fr T:Int),.I (aU T:Int)]] (fE c ⟨.idle,false,0,f+31,.work (.has T) q⟩ k w1) (λu V=>u=.tuple #[]/\∃v o D,iv (am (az c)) k w1 o D/\(c.cj T=false->cW T v o D)/\V=fE c ⟨.idle,false,0,f+15,.work .free ((T,v)::q)⟩ o D))(hK:∀q M' w1,iv (am (az c)) M w0 M' w1->oe c cW q M' w1->∀w γ,af (am (az c)) M' w1 [] w->oc c.N γ.al->bg (am (az c)) prog Stop false ⟨.idle,false,0,f+1,.work .free q⟩ γ ⟨Conc.G (a4.at (aF.put ((aC[aK]?).bind (·.dst)) (.tuple #[])) (.inRegion aC aM::aH)) csZ,w,M'⟩)(n:Nat):
 ∀(q:uae)(k:dh)(w1:aS)(a8 T:Nat)(e9 Z DJ W fK fL fM fN fO fP Y X f2 fQ fR fS iU fT:Value),c.N<=q.length+n->T<c.N->k a8->w1.heap[a8]?=some (Obj.cells #[.I (T:Int),.I (fr T:Int),.I (aU T:Int)] 186)->iv (am (az c)) M w0 k w1->oe c cW q k w1->∀w γ,af (am (az c)) k w1 [] w->bg (am (az c)) prog Stop false ⟨.idle,false,0,f+31,.work (.has T) q⟩ γ ⟨Conc.G ((base 53).at ⟨#[.P c.st 0,gH,e9,Z,.P a8 0,.T,DJ,W,fK,fL,fM,fN,fO,fP,Y,X,f2,fQ,fR,fS,iU,fT],[]⟩ [.code ((bM.dA (f53.body.getD .skip)).getD .skip),.inLoop ((bM.dA (f53.body.getD .skip)).getD .skip),.inBlock 0]) (a4.at aF (.inRegion aC (aK::aM)::aH)::csZ),w,k⟩:=by
 have j_:=(da (bR c)).np;induction n with|zero=>intro q k w1 a8 T e9 Z DJ W fK fL fM fN fO fP Y X f2 fQ fR fS iU fT hn hT F I L J w γ hF;refine bg.seen (da (bR c)) rfl λγ _ lq=>?_;have:=alY lq rfl;omega|succ n ih=>
 intro q k w1 a8 T e9 Z DJ W fK fL fM fN fO fP Y X f2 fQ fR fS iU fT hn hT F I L J w γ hF;rw[<-je (M:=k)];refine bl (bR c) ?_;simp only[f53,vae,bM.dA]at ih⊢;repeat w_go af.on
 refine hX rfl hF λg d A j a H m p hF=>?_;have i:a.heap[a8]?=some (Obj.cells #[.I (T:Int),.I (fr T:Int),.I (aU T:Int)] 186):=(hF.rw.heap a8 (.inr F)).trans I;refine ss AA rfl (λb K=>hF.fd b (.inr K)) (vbc rfl rfl Am (Ax i rfl rfl).1) rfl (λe B=>?_) ?_
 .have y:=vbs B;rw[(Ax i rfl rfl).2]at y;simp at y;rcases y with rfl|rfl|rfl<;>exact⟨rfl,.inr (.inl F)⟩
 clear i p m j d;refine bl (bR c) ?_;walk_nrm
 repeat w_go af.on
 refine hX rfl hF λg d A j a H m p hF=>?_;have C:=af.rk hF;rw[je]at C;rw[je];have Ub:=L.now hF;have R:a.heap[a8]?=some (Obj.cells #[.I (T:Int),.I (fr T:Int),.I (aU T:Int)] 186):=(hF.rw.heap a8 (.inr F)).trans I;refine MA (σ:=fE c ⟨.idle,false,0,f+31,.work (.has T) q⟩ k a) AA rfl rfl Am (rl (vs:=#[.P c.st 0,gH,.agg #[.I (T:Int),.I (fr T:Int),.I (aU T:Int)]]) rfl func84 asl rfl Cs a) (Ua q T k a hT (hI.more Ub)) C ?_;have Q:=J.step U ⟨λ_ h=>h,hF.rw,C⟩;clear hF L J I p m j d C;rintro u _ ⟨rfl,v,o,D,O,xV,rfl⟩ s eJ E;have hF:af (am (az c)) o D [] s:=E;clear E;have P:=O.sub a8 F;have I:=O.heap F R;have L:=Ub.trans O;have J:oe c cW ((T,v)::q) o D:=by
  intro x hx K;rcases vbn.1 hx with rfl|hx
  .exact xV K
  .exact Q.step U O x hx K
 clear O Ub Q R F xV;simp only[fE];rw[<-je (M:=o)];refine bl (bR c) ?_;walk_nrm
 repeat w_go af.on
 refine hX rfl hF λg d A j a H m p hF=>?_;have i:a.heap[a8]?=some (Obj.cells #[.I (T:Int),.I (fr T:Int),.I (aU T:Int)] 186):=(hF.rw.heap a8 (.inr P)).trans I;refine ss AA rfl (λb K=>hF.fd b (.inr K)) (vbc rfl rfl Am (Ax i rfl rfl).1) rfl (λe B=>?_) ?_
 .have y:=vbs B;rw[(Ax i rfl rfl).2]at y;simp at y;rcases y with rfl|rfl|rfl<;>exact⟨rfl,.inr (.inl P)⟩
 clear i p m j d;refine bl (bR c) ?_;walk_nrm
 repeat w_go af.on
 refine hX rfl hF λg d A j a H m p hF=>?_;refine tB AA j_ rfl hF (vbc (v:=.P a.heap.size 0) (w':=a.alloc (Obj.cells #[.I 0,.I 0,.I 0] 186)) rfl rfl Am Ap) rfl BH (λz=>?_);clear hF;have hF:=z;clear z p m j d;generalize a.heap.size=r at hF⊢;generalize a.alloc (Obj.cells #[.I 0,.I 0,.I 0] 186)=w3 at hF⊢;refine bl (bR c) ?_;walk_nrm
 repeat w_go af.on
 refine hX rfl hF λg d A j a H m p hF=>?_;have i:=hF.c8 (r,.cells #[.I 0,.I 0,.I 0] 186) Ad;refine B1 AA rfl (pre:=[]) (post:=[]) hF (veg (w':=a.setRow r #[.I (T:Int),.I (fr T:Int),.I (aU T:Int)]) rfl rfl Am (pV i ⟨rfl,rfl,rfl⟩ rfl rfl rfl).1) rfl (λe B=>?_) (λz=>?_)
 .have y:=vbs B;rw[(pV i ⟨rfl,rfl,rfl⟩ rfl rfl rfl).2]at y;grind
 clear hF;have hF:=z;clear z i p m j d;simp only[vei]at hF⊢;refine bl (bR c) ?_;walk_nrm
 repeat w_go af.on
 refine hX rfl hF λg d A j a H m p hF=>?_;have C:=af.rk hF;refine MA (σ:=fE c ⟨.idle,false,0,f+15,.work .free ((T,v)::q)⟩ (cd o [(r,Obj.cells #[.I (T:Int),.I (fr T:Int),.I (aU T:Int)] 186)]) a) AA rfl rfl Am (rl (vs:=#[.P c.st 0]) rfl func83 zf rfl Cs a) (N2 _ _ a C) C ?_;clear p m j d;rintro u _ (⟨rfl,rfl⟩|⟨t,asn,rfl,rfl⟩) s eJ E
 .skip
  have a7:oc c.N eJ.al:=E.2;have S:af (am (az c)) (cd o [(r,Obj.cells #[.I (T:Int),.I (fr T:Int),.I (aU T:Int)] 186)]) a [] s:=E.1;replace hF:=hF.on S.rw;clear E S C;simp only[wu];refine bl (bR c) ?_;walk_nrm
  repeat w_go af.on
  refine hX rfl hF λg d A j a H m p hF=>?_;replace a7:=ri (ri a7 (tH (c:=c) (l:=⟨.idle,false,0,f+1,.work .free ((T,v)::q)⟩) j)) (tH (c:=c) (l:=⟨.idle,false,0,f+1,.work .free ((T,v)::q)⟩) m);have i:=hF.c8 (r,.cells #[.I (T:Int),.I (fr T:Int),.I (aU T:Int)] 186) Ad;refine B1 AA rfl (pre:=[]) (post:=[]) hF (veg (w':=a.setRow r #[.I 0,.I 0,.I 0]) rfl rfl Am (pV i ⟨rfl,rfl,rfl⟩ rfl rfl rfl).1) rfl (λe B=>?_) (λz=>?_)
  .have y:=vbs B;rw[(pV i ⟨rfl,rfl,rfl⟩ rfl rfl rfl).2]at y;grind
  clear hF;have hF:=z;clear z i p m j d;simp only[vei]at hF⊢;refine bl (bR c) ?_;walk_nrm
  repeat w_go af.on
  u_in af.on hF
  refine goes_leave0 rfl rfl func53 rfl ⟨ED,?_⟩;refine vai (λg d=>⟨rfl,λA j=>?_⟩);replace hF:=hF.on d;have N:iv (am (az c)) o D (cd o [(r,Obj.cells #[.I 0,.I 0,.I 0] 186)]) g:=⟨λ_ h=>.inl h,hF.rw,af.rk hF⟩;exact hK ((T,v)::q) (cd o [(r,Obj.cells #[.I 0,.I 0,.I 0] 186)]) g (L.trans N) (J.step U N) g A (af.rk hF) (ri a7 (tH (c:=c) (l:=⟨.idle,false,0,f+1,.work .free ((T,v)::q)⟩) j))
 .skip
  have S:af (am (az c)) (cd o [(r,Obj.cells #[.I (T:Int),.I (fr T:Int),.I (aU T:Int)] 186)]) a [] s:=E;replace hF:=hF.on S.rw;clear E S C;simp only[fE];refine bl (bR c) ?_;walk_nrm
  repeat w_go af.on
  refine hX rfl hF λg d A j a H m p hF=>?_;have i:=hF.c8 (r,.cells #[.I (T:Int),.I (fr T:Int),.I (aU T:Int)] 186) Ad;refine B1 AA rfl (pre:=[]) (post:=[]) hF (veg (w':=a.setRow r #[.I (t:Int),.I (fr t:Int),.I (aU t:Int)]) rfl rfl Am (pV i ⟨rfl,rfl,rfl⟩ rfl rfl rfl).1) rfl (λe B=>?_) (λz=>?_)
  .have y:=vbs B;rw[(pV i ⟨rfl,rfl,rfl⟩ rfl rfl rfl).2]at y;grind
  clear hF;have hF:=z;clear z i p m j d;simp only[vei]at hF⊢;refine bl (bR c) ?_;walk_nrm
  iterate 3 w_go af.on
  refine vai (λg d=>⟨rfl,λA j=>?_⟩);replace hF:=hF.on d;have N:iv (am (az c)) o D (cd o [(r,Obj.cells #[.I (t:Int),.I (fr t:Int),.I (aU t:Int)] 186)]) g:=⟨λ_ h=>.inl h,hF.rw,af.rk hF⟩;exact ih ((T,v)::q) (cd o [(r,Obj.cells #[.I (t:Int),.I (fr t:Int),.I (aU t:Int)] 186)]) g r t _ _ _ _ _ _ _ _ _ _ _ _ _ _ _ _ _ _ AA asn (.inr Ad) (hF.c8 (r,Obj.cells #[.I (t:Int),.I (fr t:Int),.I (aU t:Int)] 186) Ad) (L.trans N) (J.step U N) g A (af.rk hF)
def aso{f:Nat}{M:dh}{w0 cb:aS}(R:pJ c cb w0)(E:∀T v M w M' w',cW T v M w->(∀b,c.K b\/M b->w'.heap[b]?=w.heap[b]?)->(∀b,M b->M' b)->cW T v M' w')(O:∀q t w1,af (am (az c)) t w1 [] w1->jJ prog Stop false 83 #[.P c.st 0] (fE c ⟨.idle,false,0,f+15,.work .free q⟩ t w1) (λu y=>(u=.tuple #[.agg #[.I 0,.I 0,.I 0],.F]/\y=wu c ⟨.idle,false,0,f+1,.work .free q⟩ t w1)\/∃T,T<c.N/\u=.tuple #[.agg #[.I (T:Int),.I (fr T:Int),.I (aU T:Int)],.T]/\y=fE c ⟨.idle,false,0,f+31,.work (.has T) q⟩ t w1))(W:∀q T t w1,T<c.N->pJ c cb w1->jJ prog Stop false 84 #[.P c.st 0,gH,.agg #[.I (T:Int),.I (fr T:Int),.I (aU T:Int)]] (fE c ⟨.idle,false,0,f+31,.work (.has T) q⟩ t w1) (λu y=>u=.tuple #[]/\∃v J n,iv (am (az c)) t w1 J n/\(c.cj T=false->cW T v J n)/\y=fE c ⟨.idle,false,0,f+15,.work .free ((T,v)::q)⟩ J n)):
 jJ prog Stop false 53 #[.P c.st 0,gH] (fE c ⟨.idle,false,0,f+15,.work .free []⟩ M w0) (λu y=>u=.tuple #[]/\∃q M' w1,iv (am (az c)) M w0 M' w1/\oe c cW q M' w1/\y=wu c ⟨.idle,false,0,f+1,.work .free q⟩ M' w1):=by
 intro a4 aF aC aK aM aH csZ K w γ hS;have hK:∀q M' w1,iv (am (az c)) M w0 M' w1->oe c cW q M' w1->∀w γ,af (am (az c)) M' w1 [] w->oc c.N γ.al->bg (am (az c)) prog Stop false ⟨.idle,false,0,f+1,.work .free q⟩ γ ⟨Conc.G (a4.at (aF.put ((aC[aK]?).bind (·.dst)) (.tuple #[])) (.inRegion aC aM::aH)) csZ,w,M'⟩:=λq M' w1 Y X w γ U S=>K (.tuple #[]) (wu c ⟨.idle,false,0,f+1,.work .free q⟩ M' w1) AA w γ ⟨U,S⟩;clear K;have hF:af (am (az c)) M w0 [] w:=hS;clear hS;have L:=(da (bR c)).np;rw[vds _ func53 rfl];unfold fE;rw[<-je (M:=M)];refine bl (bR c) ?_;walk_nrmf f53
 repeat w_go af.on
 refine hX rfl hF λg d r i a D m o hF=>?_;have B:=af.rk hF;rw[je]at B;rw[je];have C:iv (am (az c)) M w0 M a:=⟨λ_ h=>h,hF.rw,B⟩;clear hF;refine MA (σ:=fE c ⟨.idle,false,0,f+15,.work .free []⟩ M a) AA rfl rfl Am (rl (vs:=#[.P c.st 0]) rfl func83 zf rfl Cs a) (O [] M a B) B ?_;clear o m i d B;rintro u _ (⟨rfl,rfl⟩|⟨T,Q,rfl,rfl⟩) p V A
 .skip
  have a7:oc c.N V.al:=A.2;have hF:af (am (az c)) M a [] p:=A.1;clear A;generalize a=n at hF C;have F:oe c cW [] M n:=λx P=>AA;simp only[wu];rw[<-je (M:=M)];refine bl (bR c) ?_;walk_nrm
  repeat w_go af.on
  refine hX rfl hF λg d r i a D m o hF=>?_;replace a7:=ri (ri a7 (tH (c:=c) (l:=⟨.idle,false,0,f+1,.work .free []⟩) i)) (tH (c:=c) (l:=⟨.idle,false,0,f+1,.work .free []⟩) m);refine tB AA L rfl hF (vbc (v:=.P a.heap.size 0) (w':=a.alloc (Obj.cells #[.I 0,.I 0,.I 0] 186)) rfl rfl Am Ap) rfl BH (λk=>?_);clear hF;have hF:=k;clear k o m i d;generalize a.heap.size=j at hF⊢;generalize a.alloc (Obj.cells #[.I 0,.I 0,.I 0] 186)=w3 at hF⊢;refine bl (bR c) ?_;walk_nrm
  repeat w_go af.on
  refine hX rfl hF λg d r i a D m o hF=>?_;replace a7:=ri (ri a7 (tH (c:=c) (l:=⟨.idle,false,0,f+1,.work .free []⟩) i)) (tH (c:=c) (l:=⟨.idle,false,0,f+1,.work .free []⟩) m);have s:=hF.c8 (j,.cells #[.I 0,.I 0,.I 0] 186) Ad;refine B1 AA rfl (pre:=[]) (post:=[]) hF (veg (w':=a.setRow j #[.I 0,.I 0,.I 0]) rfl rfl Am (pV s ⟨rfl,rfl,rfl⟩ rfl rfl rfl).1) rfl (λe H=>?_) (λk=>?_)
  .have I:=vbs H;rw[(pV s ⟨rfl,rfl,rfl⟩ rfl rfl rfl).2]at I;grind
  clear hF;have hF:=k;clear k s o m i d;simp only[vei]at hF⊢;refine bl (bR c) ?_;walk_nrm
  repeat w_go af.on
  u_in af.on hF
  refine goes_leave0 rfl rfl func53 rfl ⟨ED,?_⟩;refine vai (λg d=>⟨rfl,λr i=>?_⟩);replace hF:=hF.on d;have z:iv (am (az c)) M n (cd M [(j,Obj.cells #[.I 0,.I 0,.I 0] 186)]) g:=⟨λ_ h=>.inl h,hF.rw,af.rk hF⟩;exact hK [] (cd M [(j,Obj.cells #[.I 0,.I 0,.I 0] 186)]) g (C.trans z) (F.step E z) g r (af.rk hF) (ri a7 (tH (c:=c) (l:=⟨.idle,false,0,f+1,.work .free []⟩) i))
 .skip
  have hF:af (am (az c)) M a [] p:=A;clear A;generalize a=n at hF C;have F:oe c cW [] M n:=λx P=>AA;simp only[fE];rw[<-je (M:=M)];refine bl (bR c) ?_;walk_nrm
  repeat w_go af.on
  refine hX rfl hF λg d r i a D m o hF=>?_;refine tB AA L rfl hF (vbc (v:=.P a.heap.size 0) (w':=a.alloc (Obj.cells #[.I 0,.I 0,.I 0] 186)) rfl rfl Am Ap) rfl BH (λk=>?_);clear hF;have hF:=k;clear k o m i d;generalize a.heap.size=j at hF⊢;generalize a.alloc (Obj.cells #[.I 0,.I 0,.I 0] 186)=w3 at hF⊢;refine bl (bR c) ?_;walk_nrm
  repeat w_go af.on
  refine hX rfl hF λg d r i a D m o hF=>?_;have s:=hF.c8 (j,.cells #[.I 0,.I 0,.I 0] 186) Ad;refine B1 AA rfl (pre:=[]) (post:=[]) hF (veg (w':=a.setRow j #[.I (T:Int),.I (fr T:Int),.I (aU T:Int)]) rfl rfl Am (pV s ⟨rfl,rfl,rfl⟩ rfl rfl rfl).1) rfl (λe H=>?_) (λk=>?_)
  .have I:=vbs H;rw[(pV s ⟨rfl,rfl,rfl⟩ rfl rfl rfl).2]at I;grind
  clear hF;have hF:=k;clear k s o m i d;simp only[vei]at hF⊢;refine bl (bR c) ?_;walk_nrm
  iterate 4 w_go af.on
  refine vai (λg d=>⟨rfl,λr i=>?_⟩);replace hF:=hF.on d;have z:iv (am (az c)) M n (cd M [(j,Obj.cells #[.I (T:Int),.I (fr T:Int),.I (aU T:Int)] 186)]) g:=⟨λ_ h=>.inl h,hF.rw,af.rk hF⟩;have N:=asm R E O W hK c.N;simp only[f53,vae,bM.dA]at N;exact N [] (cd M [(j,Obj.cells #[.I (T:Int),.I (fr T:Int),.I (aU T:Int)] 186)]) g j T _ _ _ _ _ _ _ _ _ _ _ _ _ _ _ _ _ _ Ad Q (.inr Ad) (hF.c8 (j,Obj.cells #[.I (T:Int),.I (fr T:Int),.I (aU T:Int)] 186) Ad) (C.trans z) (F.step E z) g r (af.rk hF)
end
end
end jd
namespace a3
open Conc ConcM RowKit ax bp cI dm
section
variable{O:gJ}
def ot(T:g4)(w w':aS):Prop:=w.heap.size<=w'.heap.size/\∀(b:Nat) c e z,w.heap[b]?=some (.cells c e z)->∃c',w'.heap[b]?=some (.cells c' e z)/\c'.size=c.size/\(e≠T->c'=c)
def m4(T:g4)(F:bb):Prop:=∀w w' v,ot T w w'->F.R w v->F.R w' v
structure m5 where
 g:Nat
 pos:Nat->Bool
 nM:Nat->Bool
 jy:List (Nat×TypeId×Nat)
def m5.st(S:m5)(j:Nat):Option (TypeId×Nat):=(S.jy.find? λp=>p.1==j).map (·.2)
def qH(S:m5)(j:Nat)(o:Oper):Option Nat:=match S.st j with|some p=>some p.2|none=>o.dst
def zG(nM:ubd)(acc:bL):bL:=λs=>if nM s then acc s else none
def Uz(L K:bL):bL:=λs=>match L s with|some F=>some F|none=>K s
def aty{N:Nat}{L K:bL}{a:Act}{w:aS}(b:af N L a w)(c:af N K a w):af N (Uz L K) a w:=⟨b.size,λs F e=>by
 unfold Uz at e;split at e
 .cases e;exact b.has s _ AA
 .exact c.has s F e⟩
def Od(P:b4)(N n0:Nat)(E:bL)(o:Oper)(p:TypeId×Nat)(F:bb):Prop:=o.guard=none/\o.dst=none/\∀a w,af N E a w->∃w',(execOp a.eval o).run P w=.ok .skip w'/\ot p.1 w w'/\Below n0 w w'/\∃v,a.tmps[p.2]?=some v/\F.R w' v
def zc(S:m5)(ops:eY)(L K:bL)(j:Nat)(acc:bL)(o:Oper):bL:=if S.pos j then vd K ops (zG S.nM acc) o else vd (Uz L K) ops acc o
def atz(P:b4)(N n0:Nat)(ops:eY)(E:bL)(o:Oper)(F:bb):Prop:=(rF ops E o true/\∀a w,n0<=w.heap.size->af N E a w->yf P o F a w)\/(rF ops E o false/\F=nF)
def AE(P:b4)(N n0:Nat)(ops:eY)(S:m5)(dF:bb)(o_:bL->Prop)(j:Nat)(E:bL)(o:Oper)(F:bb):Prop:=
 match S.st j with
 |some p=>j≠S.g/\Od P N n0 E o p F
 |none=>j=S.g/\o_ E/\F=dF\/j≠S.g/\atz P N n0 ops E o F
abbrev sR(P:b4)(N n0:Nat)(ops:eY)(S:m5)(L K:bL)(dF:bb)(o_:bL->Prop):List Oper->Nat->bL->bL->bL->Prop:=
 yg (qH S) S.nM (λj acc o F=>F.ok n0/\(S.nM j=true->∀p∈S.jy,p.1≠j->m4 p.2.1 F)/\AE P N n0 ops S dF o_ j (zc S ops L K j acc o) o F) N
section
variable{P:b4}{N n0:Nat}{ops:eY}{S:m5}{L K K':bL}{dF:bb}{o_:bL->Prop}{o:Oper}{l:uba}{j:Nat}{acc gz:bL}{d:Nat}{F:bb}
def hn(hd:o.dst=some d)(c:∀a w,n0<=w.heap.size->af N (zc S ops L K j acc o) a w->yf P o F a w)(h:sR P N n0 ops S L K dF o_ l (j+1) (up acc j F) (if S.nM j then up gz d F else gz) K')(hs:S.nM j=true->∀p∈S.jy,p.1≠j->m4 p.2.1 F:=by first|(intro h;cases h;done)|(intro _ _ h;cases h;done))(hg:o.guard=none:=by rfl)(a7:d<N:=by decide)(e:j≠S.g:=by decide)(b:S.st j=none:=by rfl)(hok:F.ok n0:=by first|exact trivial|exact rfl):sR P N n0 ops S L K dF o_ (o::l) j acc gz K':=⟨d,by unfold qH;rw[b];exact hd,a7,F,⟨hok,hs,by unfold AE;rw[b];exact .inr ⟨e,.inl ⟨GU,c⟩⟩⟩,h⟩
def hq(hd:o.dst=some d)(b:bF P N (zc S ops L K j acc o) o F)(h:sR P N n0 ops S L K dF o_ l (j+1) (up acc j F) (if S.nM j then up gz d F else gz) K')(hs:S.nM j=true->∀p∈S.jy,p.1≠j->m4 p.2.1 F:=by first|(intro h;cases h;done)|(intro _ _ h;cases h;done))(hg:o.guard=none:=by rfl)(a7:d<N:=by decide)(e:j≠S.g:=by decide)(c:S.st j=none:=by rfl)(hok:F.ok n0:=by first|exact trivial|exact rfl):sR P N n0 ops S L K dF o_ (o::l) j acc gz K':=hn hd (λa w _ h=>b a w h) h hs hg a7 e c hok
def hg(hd:o.dst=some d)(hc:o_ (zc S ops L K j acc o))(h:sR P N n0 ops S L K dF o_ l (j+1) (up acc j dF) (if S.nM j then up gz d dF else gz) K')(hs:S.nM j=true->∀p∈S.jy,p.1≠j->m4 p.2.1 dF:=by first|(intro h;cases h;done)|(intro _ _ h;cases h;done))(a7:d<N:=by decide)(b:j=S.g:=by rfl)(a:S.st j=none:=by rfl)(hok:dF.ok n0:=by exact trivial):sR P N n0 ops S L K dF o_ (o::l) j acc gz K':=⟨d,by unfold qH;rw[a];exact hd,a7,dF,⟨hok,hs,by unfold AE;rw[a];exact .inl ⟨b,hc,Y⟩⟩,h⟩
def hk{B:ubm}(hd:o.dst=some d)(a:bF P N (zc S ops L K j acc o) o F)(hs:∀T,B T->m4 T F)(c:∀p∈S.jy,B p.2.1)(h:sR P N n0 ops S L K dF o_ l (j+1) (up acc j F) (if S.nM j then up gz d F else gz) K')(hg:o.guard=none:=by rfl)(a7:d<N:=by decide)(f:j≠S.g:=by decide)(e:S.st j=none:=by rfl)(hok:F.ok n0:=by first|exact trivial|exact rfl):sR P N n0 ops S L K dF o_ (o::l) j acc gz K':=hq hd a h (λ_ p b _=>hs _ (c p b)) hg a7 f e hok
def hst{p:TypeId×Nat}(a:S.st j=some p)(b:Od P N n0 (zc S ops L K j acc o) o p F)(h:sR P N n0 ops S L K dF o_ l (j+1) (up acc j F) (if S.nM j then up gz p.2 F else gz) K')(hs:S.nM j=true->∀p∈S.jy,p.1≠j->m4 p.2.1 F:=by first|(intro h;cases h;done)|(intro _;decide))(a7:p.2<N:=by decide)(c:j≠S.g:=by decide)(hok:F.ok n0:=by exact Y):sR P N n0 ops S L K dF o_ (o::l) j acc gz K':=⟨p.2,by unfold qH;rw[a],a7,F,⟨hok,hs,by unfold AE;rw[a];exact⟨c,b⟩⟩,h⟩
end
def D1(S:m5)(au:uat):Prop:=∀p∈S.jy,au.getD p.1 false=false
structure mf(N:Nat)(ops:eY)(S:m5)(L Q:bL)(cS:Nat->bb)(au:uat)(a:Act)(w:aS):Prop where
 len:au.size=ops.size
 size:a.tmps.size=N
 yh:∀p∈S.jy,au.getD p.1 false=true->∀i,i<ops.size->S.pos i=false->i≠p.1->au.getD i false=true
 loc:D1 S au->af N L a w
 GG:af N Q a w
 val:∀(j:Nat) o d,ops[j]?=some o->qH S j o=some d->au.getD j false=true->D1 S au\/S.nM j=true->∃v,a.tmps[d]?=some v/\(cS j).R w v
structure me(ops:eY)(S:m5)(L Q K:bL):Prop where
 one:∀(i j:Nat) o o' d,ops[i]?=some o->ops[j]?=some o'->qH S i o=some d->o'.dst=some d->S.st j=none->i=j\/S.pos j=false/\∃p∈S.jy,p.1=i
 l:∀(i:Nat) o d,ops[i]?=some o->o.dst=some d->L d=none/\Q d=none/\K d=none
 x:∀p∈S.jy,S.st p.1=some p.2/\p.1<ops.size/\(∀i,i<ops.size->S.pos i=false->i≠p.1->An ops p.1 i=true)/\∀q∈S.jy,q.2.2=p.2.2->q=p
 sd:∀(j:Nat) o q,S.st j=some q->ops[j]?=some o->o.dst=none
 g:S.pos S.g=false/\S.st S.g=none
 yh:(List.range ops.size).all (λj=>match ops[j]? with|some o=>o.after.all λe=> !Region.binds .any e||decide (e.on<j)|none=>true)=true
def Kb(ops:eY)(S:m5):Bool:=
 ((List.range ops.size).all λi=>(List.range ops.size).all λj=>i==j||(ops[j]?).bind (·.dst)==none||(S.st j).isSome||(ops[i]?).bind (qH S i) != (ops[j]?).bind (·.dst)||(!S.pos j&&S.jy.any λp=>p.1==i))&&
 (S.jy.all λp=>S.st p.1==some p.2&&decide (p.1<ops.size)&&((List.range ops.size).all λi=>S.pos i||i==p.1||An ops p.1 i)&&S.jy.all λq=>q.2.2 != p.2.2||q==p)&&
 ((List.range ops.size).all λj=>S.st j==none||(ops[j]?).bind (·.dst)==none)&&
 (!S.pos S.g&&S.st S.g==none)&&
 ((List.range ops.size).all λj=>match ops[j]? with|some o=>o.after.all λe=> !Region.binds .any e||decide (e.on<j)|none=>true)
theorem me.of{ops:eY}{L Q K:bL}{S:m5}(h:Kb ops S=true)(g:pR L ops.toList=true)(c:pR Q ops.toList=true)(hK:pR K ops.toList=true):me ops S L Q K:=by
 unfold Kb at h;simp only[vaf,List.all_eq_true,List.mem_range,Bool.or_eq_true,beq_iff_eq,bne_iff_ne,Bool.not_eq_true',decide_eq_true_eq,List.any_eq_true]at h;obtain⟨⟨⟨⟨n,m⟩,r⟩,f⟩,e⟩:=h;have b:∀{K:bL},pR K ops.toList=true->∀(i:Nat) o d,ops[i]?=some o->o.dst=some d->K d=none:=λhK i o d a hd=>by unfold pR at hK;rw[List.all_eq_true]at hK;have:=hK o (Array.mem_toList_iff.2 (vbf a));simp_all
 refine⟨λi j o o' d hi l s dj hs=>?_,λi o d a hd=>⟨b g i o d a hd,b c i o d a hd,b hK i o d a hd⟩,λp k=>?_,λj o q hq a=>?_,f,by simpa using e⟩
 .grind
 .grind
 .grind
section
variable{P:b4}{N n0:Nat}{ops:eY}{S:m5}{L Q K:bL}{cS:Nat->bb}{au:uat}{a:Act}{w w1:aS}
def zF(r:∀s F,L s=some F->F.ok n0)(f:∀s F,Q s=some F->F.ok n0)(hF:∀j,j<ops.size->(cS j).ok n0):pQ n0 (mf N ops S L Q cS au):=by intro ρ a a' w w' hc b h;refine⟨h.len,by rw[<-b.size];exact h.size,h.yh,λq=>jx n0 r ρ a a' w w' hc b (h.loc q),jx n0 f ρ a a' w w' hc b h.GG,λj o d c p n m=>?_⟩;obtain⟨v,l,k⟩:=h.val j o d c p n m;obtain⟨e,i,g⟩:=b.some l;exact⟨e,i,(cS j).ic _ (hF j (vas.1 c).1) _ _ _ _ _ hc g k⟩
def mf.start(h:af N L a w)(hq:af N Q a w):mf N ops S L Q cS (Array.replicate ops.size false) a w:=⟨Ad,h.size,λp _ q=>by grind[S5],λ_=>h,hq,λj o d _ _ q=>by grind[S5]⟩
def mf.atA(g:me ops S L Q K)(h:mf N ops S L Q cS au a w){i:Nat}(f:i<ops.size)(d:S.pos i=false)(b:au.getD i false=false):D1 S au:=λp c=>by
 cases e:au.getD p.1 false with
 |false=>rfl
 |true=>
  by_cases hi:i=p.1
  .grind
  .rw[h.yh p c e i f d hi]at b;cases b
def mf.env(j:me ops S L Q K)(h:mf N ops S L Q cS au a w)(hK:af N K a w){i:Nat}{o:Oper}(c:ops[i]?=some o)(l:au.getD i false=false)(k:∀e∈o.after,Region.binds .any e=true->au.getD e.on false=true):af N (zc S ops L K i (λs=>if 0<=s/\s<i then some (cS s)else none) o) a w:=by
 have f:i<ops.size:=(vas.1 c).1;have key:∀B acc,af N B a w->(∀s F,acc s=some F->F=cS s/\(D1 S au\/S.nM s=true))->af N (vd B ops acc o) a w:=λB acc m n=>⟨h.size,λs F e=>by
  unfold vd at e;split at e
  .rename_i x g;have b:=List.find?_some g;have q:=List.mem_of_find?_eq_some g;simp at b;obtain⟨rfl,hF⟩:=n _ _ e;cases c:ops[x.on]? with
   |none=>grind
   |some o'=>
    simp[c]at b;refine h.val _ o' s c ?_ (k x AA b.1) hF;unfold qH;split
    .rename_i p d;rw[j.sd _ _ _ d c]at b;cases b.2
    .exact b.2
  .exact m.has s F e⟩
 unfold zc;split
 .refine key K _ hK λs F e=>?_;unfold zG at e;grind
 .rename_i d;have h0:=h.atA j f (by simpa using d) l;exact key _ _ (aty (h.loc h0) hK) λs F e=>AA
def UA(b:me ops S L Q K){i:Nat}(hs:S.st i=none){p:Nat×TypeId×Nat}(a:p∈S.jy):i≠p.1:=λe=>by rw[e,(b.x p a).1]at hs;cases hs
def UB{au:uat}{i j:Nat}(h:i≠j):(au.setIfInBounds i true).getD j false=au.getD j false:=by simp_all
def Np{N:Nat}{K:bL}{a:Act}{w w1:aS}(h:af N K a w){d:Nat}(hd:K d=none)(f:cJ w w1){v:Value}:af N K (a.put (some d) v) w1:=⟨GR,λs F e=>by
 obtain⟨x,c,b⟩:=h.has s F e;exact⟨x,(fY λx=>AA).trans c,F.fZ _ _ _ f b⟩⟩
theorem mf.put(f:me ops S L Q K)(h:mf N ops S L Q cS au a w){i:Nat}{o:Oper}{d:Nat}(k:ops[i]?=some o)(hd:o.dst=some d)(hs:S.st i=none)(a7:d<N)(r:au.getD i false=false)(m:cJ w w1){v:Value}(hv:(cS i).R w1 v):mf N ops S L Q cS (au.setIfInBounds i true) (a.put (some d) v) w1:=by
 have hi:i<au.size:=FU;have hn:D1 S (au.setIfInBounds i true)↔D1 S au:=⟨λq p b=>(UB (UA f hs b))▸q p b,λq p b=>(UB (UA f hs b)).trans (q p b)⟩;refine⟨E3,GR,λp b q j g c n=>?_,λq=>Np (h.loc (hn.1 q)) (f.l i o d k hd).1 m,Np h.GG (f.l i o d k hd).2.1 m,λj o' t g c n z=>?_⟩
 .rw[UB (UA f hs b)]at q;exact(rB hi).2 (.inr (h.yh p b q j g c n))
 .by_cases e:j=i
  .subst e;rw[k]at g;cases g;unfold qH at c;rw[hs]at c;rw[hd]at c;cases c;exact⟨v,mY (by rw[h.size];exact a7),hv⟩
  .have s:=((rB hi).1 n).resolve_left e;obtain⟨x,y,u⟩:=h.val j o' t g c s (z.imp hn.1 id);have l:d≠t:=λx=>by
    subst x;rcases f.one j i o' o d g k c hd hs with q|⟨q,p,b,rfl⟩
    .exact e q
    .rw[h.yh p b s i (by rw[<-h.len];exact hi) q (Ne.symm e)]at r;cases r
   exact⟨x,(fY l).trans y,(cS j).fZ _ _ _ m u⟩
theorem mf.store(D:me ops S L Q K)(h:mf N ops S L Q cS au a w){p:Nat×TypeId×Nat}(i:p∈S.jy){o:Oper}(A:ops[p.1]?=some o)(y:∀e∈o.after,Region.binds .any e=true->au.getD e.on false=true)(n:ot p.2.1 w w1)(hst:∀j,j<ops.size->S.nM j=true->p.1≠j->m4 p.2.1 (cS j))(M:∀s F,Q s=some F->∀p∈S.jy,m4 p.2.1 F){v:Value}(e:a.tmps[p.2.2]?=some v)(hv:(cS p.1).R w1 v):mf N ops S L Q cS (au.setIfInBounds p.1 true) a w1:=by
 obtain⟨J,ed,H,-⟩:=D.x p i;have hi:p.1<au.size:=by rw[h.len];exact ed
 have hc:(au.setIfInBounds p.1 true).getD p.1 false=true:=(rB hi).2 J1;have hn:¬D1 S (au.setIfInBounds p.1 true):=λq=>by rw[q p i]at hc;cases hc
 refine⟨E3,h.size,λq hq z j c b k=>(rB hi).2 ?_,λq=>absurd q hn,⟨h.size,λs F d=>by
  obtain⟨x,g,f⟩:=h.GG.has s F d;exact⟨x,g,M s F d p i _ _ _ n f⟩⟩,λj o' I c b k E=>?_⟩
 .by_cases t:j=p.1
  .exact .inl t
  rcases(rB hi).1 z with z|z
  .obtain⟨o',r,e,B,C,rfl⟩:=S8 (H j c b t);rw[A]at r;cases r;exact .inr (y e B C)
  .exact .inr (h.yh q hq z j c b k)
 .have m:=E.resolve_left hn;by_cases l:j=p.1
  .subst l;unfold qH at b;rw[J]at b;cases b;exact⟨v,e,hv⟩
  .obtain⟨u,g,f⟩:=h.val j o' I c b (((rB hi).1 k).resolve_left l) (.inr m);exact⟨u,g,hst j (vas.1 c).1 m (Ne.symm l) _ _ _ n f⟩
def Nd{j:Nat}{q:TypeId×Nat}(h:S.st j=some q):(j,q)∈S.jy:=by unfold m5.st at h;obtain⟨p,a,rfl⟩:=vaj.1 h;have:=List.find?_some a;have:=List.mem_of_find?_eq_some a;grind
theorem mf.step{dF:bb}{o_:bL->Prop}(r:me ops S L Q K)(T:∀s F,Q s=some F->∀p∈S.jy,m4 p.2.1 F)(x:∀(j:Nat) o,ops[j]?=some o->∃d,qH S j o=some d/\d<N/\(cS j).ok n0/\(S.nM j=true->∀p∈S.jy,p.1≠j->m4 p.2.1 (cS j))/\AE P N n0 ops S dF o_ j (zc S ops L K j (λs=>if 0<=s/\s<j then some (cS s)else none) o) o (cS j))(h:mf N ops S L Q cS au a w)(hK:af N K a w){i:Nat}{o:Oper}(z:i≠S.g)(t:n0<=w.heap.size)(m:au.getD i true=false)(b:ops[i]?=some o)(u:∀e∈o.after,Region.binds .any e=true->au.getD e.on false=true):
 wpOps P ops (jZ λa1 w1=>((∃d v,o.dst=some d/\a1=a.put (some d) v)\/a1=a)/\mf N ops S L Q cS (au.setIfInBounds i true) a1 w1/\Below n0 w w1) [i] a w:=by
 have m:au.getD i false=false:=AA;obtain⟨d,c,J,V,U,k⟩:=x i o b;have l:=h.env r hK b m u;unfold AE at k;unfold qH at c;cases hs:S.st i with
 |some q=>
  simp only[hs]at k;obtain⟨-,g1,f,M⟩:=k;obtain⟨w',E,D,C,v,B,O⟩:=M a w l;exact tV b g1 f E ⟨.inr Y,h.store r (p:=(i,q)) (Nd hs) b u D (λj I H n=>by
   obtain⟨-,-,-,-,A,-⟩:=x j _ (vao I);exact A H _ (Nd hs) n) T B O,C⟩
 |none=>
  simp only[hs]at k c;obtain⟨q,-⟩|⟨-,g⟩:=k
  .exact absurd q z
  refine kh (R:=λa1 w1=>(∃v,a1=a.put (some d) v/\(cS i).R w1 v)/\cJ w w1) (by
   rcases g with⟨g1,f⟩|⟨g1,f⟩
   .exact TJ b (g1.is l) c (f a w t l)
   .exact Z9 b (g1.is l) c ⟨⟨undef,Y,by rw[f];rfl⟩,vaa _ _⟩) ?_
  rintro a1 w1 ⟨⟨v,rfl,hv⟩,y⟩;exact⟨Y,.inl ⟨d,v,c,Y⟩,h.put r b c hs J m y hv,y.mono t⟩
def mf.dK(l:me ops S L Q K)(h:mf N ops S L Q cS au a w)(hK:af N K a w)(j:Region.ready .any ops au=[]){K' gz:bL}(g:∀s F,gz s=some F->K s=some F\/S.jy=[]/\L s=some F)(m:∀s F,K' s=some F->(∃i o,ops.toList[i]?=some o/\qH S (0+i) o=some s/\F=cS (0+i)/\S.nM (0+i)=true)\/gz s=some F):af N K' a w:=⟨h.size,λs F e=>by
 have hdone:=Z6 l.yh h.len j;rcases m s F e with⟨i,o,b,d,rfl,c⟩|k
 .rw[vbm]at d c⊢;have b:ops[i]?=some o:=AA;exact h.val i o s b d (hdone i (vas.1 b).1) (.inr c)
 .rcases g s F k with k|⟨n,k⟩
  .exact hK.has s F k
  .exact(h.loc λp f=>by rw[n]at f;cases f).has s F k⟩
end
section
variable{P:b4}{Post:uab}{n n0:Nat}{Shun:uam}{M a6:dh}{w w0:aS}{f:uaj}{a:Act}{k:il}{cs:fV}{N:Nat}{L Q K':bL}{ops:eY}{S:m5}
def Nc{id:Nat}(hC:(cY P).Good)(X:P.follows .mixedOrders=true)(hf:kA P f)(hk:(Item.inRegion ops []::k).all (gr P)=true)(aN:∀s F,L s=some F->F.ok n0)(D:∀s F,Q s=some F->F.ok n0/\∀p∈S.jy,m4 p.2.1 F)(gV:Kb ops S=true)(UD:pR L ops.toList=true)(g:pR Q ops.toList=true){c:Oper}{d:Nat}{gf:uaj}{dM:Func}{hL:Code}{args:uaw}{ats:uaq}(l:ops[S.g]?=some c)(A:c.op=.call {callee:=.value (.func gf),args,argTypes:=ats})(U:P.funcs[gf]?=some dM)(lK:(dM.name== "runtime.NumGoroutine")=false)(hb:dM.body=some hL)(dY:c.guard=none)(hn:n+16*d<=900000){iy:Tmp}(z:c.dst=some iy){dF:bb}{gz:bL}(hq:sR (ae P true) N n0 ops S L Q dF (λE=>∀a M w Shun,Home O P M Shun w->af N E a w->aJ (bQ M) a.tmps a.tmps->gi O P Post gf (args.map a.eval) M w d (λu _ w'=>dF.R w' u/\cy M w w')) ops.toList 0 (λ_=>none) gz K')(T:S.jy=[]/\gz=L\/gz=Q)(H:Held O P a6 w0 n0 a M w Shun)(h0:af N L a w)(nV:af N Q a w)(jT:∀a M' w' m y,af N K' a w'->m<=n+16*d->Held O P a6 w0 n0 a M' w' y->bP P Post m y 0 (a0 ((base f).at a (.inRegion ops []::k)) cs) w'):
 bP P Post n Shun 0 (a0 ((base f).at a (.code (.region id ops true)::k)) cs) w:=by
 obtain⟨cS,h1,h2⟩:=yg.all hq;have b:=me.of (K:=Q) gV UD g g;have cX:∀(j:Nat) o,ops[j]?=some o->_:=λj o J=>h1 j o AA;simp only[vbm]at cX;have UE:∀j,j<ops.size->(cS j).ok n0:=λj hj=>by obtain⟨d',-,-,q,-⟩:=cX j _ (vao hj);exact q
 obtain⟨atB,x,R,-,-,C⟩:=cX S.g c l;unfold AE at C;unfold qH at x;simp only[b.g.2]at C x;rw[z]at x;cases x;obtain⟨-,eO,gI⟩:_/\_/\cS S.g=dF:=C.resolve_right λh=>absurd rfl h.1;refine aor hC X hf hk S.g l A U lK hb dY hn (I:=mf N ops S L Q cS) (λau=>zF aN (λs F e=>(D s F e).1) UE) z (λau a w h=>by rw[h.size];exact R) (mX:=dF.R) (λau a w h=>h.len) H (mf.start h0 nV) ?_ ?_ ?_ ?_
 .intro au a W i o h hd hW V ld J r;refine kh (h.step b (λs F e=>(D s F e).2) cX h.GG V hW ld J r) λa1 w1⟨br,bn,Y⟩=>⟨rfl,?_,bn,Y⟩;rcases br with⟨d',v,-,rfl⟩|rfl
  .rw[put_defers];exact hd
  .exact hd
 .intro au a M w Shun t h B r;exact eO a M w Shun t.fH (h.env b h.GG l B r) t.all
 .intro au a w u h B r hu;exact h.put b l z b.g.2 R B (vaa _ _) (by rw[gI];exact hu)
 .intro au a M' w' m y h hr Z t;exact jT a M' w' m y (h.dK b h.GG hr (λs F e=>by rcases T with⟨k1,rfl⟩|rfl;exact .inr ⟨k1,e⟩;exact .inl e) h2) Z t
end
end
end a3
namespace a3
def OT{l:uad}{n:Nat}(h:l.length=n+1):∃x a,l=x::a/\a.length=n:=by cases l<;>grind
def awc{a:Act}(h:a.tmps.size=40)(hd:a.defers=[]):∃f i ed g l4 d O e b P N M L K J I v u t s r c q H F E D C B A z y x w p o n m k j,a=⟨#[f,i,ed,g,l4,d,O,e,b,P,N,M,L,K,J,I,v,u,t,s,r,c,q,H,F,E,D,C,B,A,z,y,x,w,p,o,n,m,k,j],[]⟩:=by
 obtain⟨⟨l⟩,ds⟩:=a;cases hd;iterate 40
  rcases l with _ |⟨_,l⟩
  .simp at h
 rcases l with _ |⟨_,l⟩
 .iterate 40 apply Exists.intro
  rfl
 .simp at h
section
open Conc ConcM RowKit ax bp cI dm lM
variable{O:gJ}
section
variable{P:b4}{Post:uab}{n:Nat}{Shun:uam}{M:dh}{w:aS}{f:uaj}{a b:Act}{k k':il}{cs:fV}{n0:Nat}{a6:dh}{w0:aS}
theorem mA.act{D:fi}(hd:D.d=cs.length){g:uah}(h:mA P D (a0 ((base f).at a k) cs) g):∃b,g=a0 ((base f).at b k) cs/\gY D a b:=by
 generalize c:a0 ((base f).at a k) cs=g0 at h;cases h with
 |same g e=>grind[a0]
 |gK h v=>cases c;obtain⟨b,rfl,d⟩:=e6.act h;exact⟨b,Y,d⟩
 |under a h=>cases c;have:=h.lt;omega
def KC(m:(cY P).Good)(hF:P.follows .rangeFuncRecover=true)(x:kA P f){D:fi}(hd:D.d=cs.length)(v:Ai P D f)(B:gY D a b)(F:k.all (hN D)=true)(H:Held O P a6 w0 n0 a M w Shun)(hk:k.all (gr P)=true)(C:k'.all (gr P)=true){I J:uag}(z:pQ n0 I)(A:pQ n0 J)(h0:I a w)(hrun:∀W,n0<=W.heap.size->I a W->bI (ae P true) k k' (λa1 w1=>a1.defers=[]/\J a1 w1/\Below n0 W w1) a W)(E:∀a' d M' w',Held O P a6 w0 n0 a' M' w' Shun->gY D a' d->J a' w'->bP P Post n Shun 0 (a0 ((base f).at d k') cs) w'):
 bP P Post n Shun 0 (a0 ((base f).at b k) cs) w:=by
 refine SW m hF (D:=D) H.fH (f:=f) (cs0:=[]) (bs:=cs) (g:=a0 ((base f).at b k) cs) AP (.gK (B.SX f k) (v.bj F a) cs hd.symm _ _) (Jm m x H.all H.defers hk) .nil ⟨Y,Y⟩ (R:=λr cse c l=>cse=[]/\∃a1,r=(base f).at a1 k'/\a1.defers=[]/\J a1 l/\∃T,Below n0 {c with tape:=T} l) (λc e T=>?_) ?_
 .obtain⟨a1,w1,⟨q,p,j⟩,o⟩:=hrun {c with tape:=T} I2 (z _ _ _ _ _ (H.fH.kX e T) H.all h0) (base f) [eM f];grind
 .rintro ρ r cse c l K L w' g' e ⟨rfl,a1,rfl,t,q,T,p⟩ u h i s;cases h;obtain⟨a',rfl,j,o⟩:=Jn t C u;obtain⟨d,rfl,y⟩:=mA.act hd s;exact E a' d (pO ρ) w' (H.next e i p (i.all j) o) y (A _ _ _ _ _ (i.kX H.size) j q)
variable{ops:eY}{i:Nat}{rest:uaa}{o:Oper}
theorem gY.put{D:fi}(h:gY D a b){d:Tmp}(e:D.T d=false)(hK:D.K d=false)(u:Value):gY D (a.put (some d) u) (b.put (some d) u):=by
 refine⟨by rw[iS,iS];exact h.size,λi hi=>?_,λi v hi hv=>?_,λi hi=>?_,by rw[put_defers,put_defers];exact h.defers⟩
 .simp[Act.put,vak,h.size,h.same i hi]
 .have c:d≠i:=AA;simp[Act.put,c]at hv;exact h.gone i v hi hv
 .have c:d≠i:=AA;simp[Act.put,c];exact h.kept i hi
theorem gY.eval{D:fi}(h:gY D a b){x:uar}(c:Af D x=true):b.eval x=a.eval x:=by
 cases x with
 |tmp t=>
  have ht:D.T t=false:=by grind[Af]
  simp[Act.eval,h.same t ht]
 | _=>rfl
structure KD(P:b4)(f:uaj)(ops:eY)(k:il)(D:Nat->fi):Prop where
 d:∀n,(D n).d=n
 fn:∀n,Ai P (D n) f
 ops:∀n,ops.all (sH (D n) ops)=true
 items:∀n,k.all (hN (D n))=true
 aT:∀n i,(D n).T i=true->(D n).K i=true
 follows:P.follows .rangeFuncRecover=true
 one:∀n m i,((D n).T i=(D m).T i/\(D n).K i=(D m).K i/\(D n).V i=(D m).V i)
def gY.any{D:Nat->fi}(h:KD P f ops k D){n:Nat}(c:gY (D n) a b)(m:Nat):gY (D m) a b:=
 ⟨c.size,λi hi=>c.same i ((h.one n m i).1.trans hi),λi v hi hv=>c.gone i v ((h.one n m i).1.trans hi) hv,λi hi=>(c.kept i ((h.one n m i).2.1.trans hi)).trans (h.one n m i).2.2,c.defers⟩
def tG{d:Nat}{g:uaj}{dM:Func}{hL:Code}{args:uaw}{ats:uaq}(r:o.op=.call {callee:=.value (.func g),args,argTypes:=ats})(hg:P.funcs[g]?=some dM)(C:(dM.name== "runtime.NumGoroutine")=false)(j:dM.body=some hL)(hn:n+16*d<=900000)(F:kA P f){D:Nat->fi}(c:KD P f ops k D)(l:gY (D cs.length) a b)(H:Held O P a6 w0 n0 a M w Shun)(hk:(Item.inRegion ops []::k).all (gr P)=true)(s:ops[i]?=some o)(V:o.guard=none){h:Tmp}(E:o.dst=some h/\h<a.tmps.size)(A:∀n,lM.ik (D n) o=true){I J:uag}{mX:uaz}(L:pQ n0 I)(h0:I a w)(B:∀k,gi O P Post g (args.map a.eval) M (w.at k) d (λu _ w'=>mX w' u/\cy M w w'))(S:∀u w',I a w'->mX w' u->J (a.put (some h) u) w')(U:∀a' y M' w' p q,p<=n+16*d->Held O P a6 w0 n0 a' M' w' q->gY (D cs.length) a' y->J a' w'->bP P Post p q 0 (a0 ((base f).at y (.inRegion ops rest::k)) cs) w'):
 bP P Post n Shun 0 (a0 ((base f).at b (.inRegion ops (i::rest)::k)) cs) w:=by
 simp only[vbj,vaf]at hk;have K:∀n,(D n).T h=false:=λn=>by simp_all[lM.ik,SQ]
 have T:args.map b.eval=args.map a.eval:=Array.map_congr_left λx X=>l.eval (by
  have:=A cs.length;simp only[lM.ik,vaf]at this;grind[Array.all_eq_true_iff_forall_mem,Op.operands,Call.operands])
 have hK:(D cs.length).K h=false:=by have:=vam.1 (c.ops cs.length) o (vbf s);simp_all[sH,SR]
 refine Z1 r hg C j T hn H.fH ⟨F,.inr ⟨D,a,λm=>l.any c m,H.all,c.d,c.fn,c.ops,c.items,λn Y e=>?_,c.aT,c.follows⟩,by rw[l.defers];exact H.defers,hk.1,hk.2,⟨h,AA,by rw[l.size];grind⟩⟩ s (ya V _) B ?_
 .grind
 rintro u M' w' p q R Q t N z ⟨W,v⟩;rw[E.1];refine U _ _ M' w' p q R ⟨Q,λb j=>t b (H.sub b j),H.since.trans z,H.keep.trans (λb j=>H.sub b j.1) v,?_,GH,vad H.size z.size⟩ (l.put (K _) hK u) (S u w' (L _ _ _ _ _ (v.kX H.fH) H.all h0) W);exact(H.all.mono (qx t)).set N _
end
section
variable{D D':fi}
def Vz(c:D.T=D'.T)(b:D.K=D'.K)(a:D.sl=D'.sl):sH D=sH D':=by cases D;cases D';simp only at c b a;subst c;subst b;subst a;rfl
def awl(a:D.T=D'.T):Af D=Af D':=by cases D;cases D';simp only at a;subst a;rfl
def tD(g:D.T=D'.T)(j:D.K=D'.K)(h:D.sl=D'.sl):∀c,oX D c=oX D' c:=by intro c;induction c with|region id ops d=>simp[oX,Vz g j h]|seq a b f e=>grind[oX]|cond c a b f e=>simp[oX,f,e,awl g]|block id c i=>grind[oX]|loop c i=>grind[oX]| _=>rfl
def awm(d:D.T=D'.T)(b:D.K=D'.K)(a:D.sl=D'.sl):∀x,hN D x=hN D' x:=by intro x;cases x with|code c=>exact tD d b a c|inLoop c=>exact tD d b a c|inRegion ops l=>simp[hN,Vz d b a]| _=>rfl
def tw(c:D.T=D'.T)(b:D.K=D'.K)(a:D.sl=D'.sl)(l:il):l.all (hN D)=l.all (hN D'):=by rw[funext (awm c b a)]
