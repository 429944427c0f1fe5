import Derived.Test.YtebcnmadaaimoaaGreatPAJ
import Derived.Test.YtebcnmadaaimoaaGreatPAL
set_option linter.all false
set_option maxRecDepth 100000
set_option maxHeartbeats 16000000
namespace Go.Proofs.YtebcnmadaaimoaaGreat
open Go.Proofs.Tryz
namespace bc
open Conc ConcM az bo cF c3
variable{c gH x y:Code}
section
variable{O:gW}
def kj(R:uaf)(e:Exit)(a:Act)(w:aL):Prop:=e=.normal/\R a w
section
variable{P:cf}
def JV{ops:du}{R:uaf}(l2:e8)(l:e8):∀(a:Act)(w:aL),wpOps P ops (kj R) l a w->∀(b:Frame)(k:fC)(cs:dZ),
 ∃a' w',R a' w'/\Steps P (lone (b.at a (.inRegion ops (l++l2)::k)) cs w) (lone (b.at a' (.inRegion ops l2::k)) cs w'):=by
 induction l with
 |nil=>exact λa w h b k cs=>⟨a,w,h.2,.refl _ _⟩
 |cons i rest j=>
  intro a w h b k cs;simp[wpOps]at h;simp;cases m:ops[i]? with
  |none=>simp[m]at h;obtain⟨a',w',hq,c⟩:=j a w h b k cs;have hs:=step_op_skip (P:=P) (b:=b) (a:=a) (k:=k) (cs:=cs) (w:=w) (ops:=ops) (i:=i) (rest:=rest++l2) AF;simp[m,Act.put]at hs;exact⟨a',w',hq,.head hs c⟩
  |some o=>
   simp[m]at h;by_cases s:Region.wanted o (yielded ops a.tmps)=true
   .simp[s]at h;rcases h with h|⟨y,r,n,hq⟩
    case inr=>cases hq.1
    simp[Oper.wp,Oper.upon]at h;have hg:=stepG_op (P:=P) (b:=b) (k:=k) (cs:=cs) (w:=w) (rest:=rest++l2) m s;have z:∀v,(b.at a (.inRegion ops (i::(rest++l2))::k)).finish v=b.at (a.put o.dst v) (.inRegion ops (rest++l2)::k):=by grind[Frame.finish_at]
    split at h
    .rename_i v w' p;obtain⟨a',w'',hq,c⟩:=j _ _ h b k cs;refine⟨a',w'',hq,.head (step_lone_go ?_) c⟩;simp_all[stepG.apply]
    .rename_i w' p;obtain⟨a',w'',hq,c⟩:=j _ _ h b k cs;refine⟨a',w'',hq,.head (step_lone_go ?_) c⟩;simp_all[stepG.apply]
    .rename_i d w' p;obtain⟨a',w'',hq,c⟩:=j _ _ h b k cs;refine⟨a',w'',hq,.head (step_lone_go ?_) c⟩;have:({b.at a (.inRegion ops (i::(rest++l2))::k)with defers:=d::a.defers}:Frame).finish undef=
      b.at ({a with defers:=d::a.defers}.put o.dst undef) (.inRegion ops (rest++l2)::k):=by
      have:=vct b {a with defers:=d::a.defers} ops i (rest++l2) k undef;rw[m]at this;exact this
     rw[hg];simp only[stepG.apply,vau,p,GStep.bare_after];exact vbx (λfr=>GStep.go {frame:=fr,callers:=cs,status:=.running,dying:=none} w') this
    .rename_i f args w' p;obtain⟨e,w'',fr,q,u,_,x⟩:=h (b.at a (.inRegion ops (i::(rest++l2))::k)::cs);have t:step P (lone (b.at a (.inRegion ops (i::(rest++l2))::k)) cs w)=
      .next (lone (Frame.enter P f args .normal) (b.at a (.inRegion ops (i::(rest++l2))::k)::cs) w'):=
      step_lone_go (by simp_all[stepG.apply,Frame.at])
     cases e with
     |returned v=>obtain⟨a',g,hq,c⟩:=j _ _ q b k cs;refine⟨a',g,hq,.head t (Steps.trans u (.head ?_ c))⟩;grind[step_leave_returned]
     |panicked chain=>cases q.1
     |outgrown=>obtain⟨r,n,hq⟩:=q;cases hq.1
    .rename_i row args w' p;obtain⟨v,w'',q,u⟩:=h (b.at a (.inRegion ops (i::(rest++l2))::k)) cs;have t:step P (lone (b.at a (.inRegion ops (i::(rest++l2))::k)) cs w)=
      .next (lone (Frame.ofRow P row args .normal) (b.at a (.inRegion ops (i::(rest++l2))::k)::cs) w'):=
      step_lone_go (by simp_all[stepG.apply,Frame.at])
     obtain⟨a',g,hq,c⟩:=j _ _ q b k cs;refine⟨a',g,hq,.head t (Steps.trans ?_ c)⟩;grind
    .cases h.1
    grind
   .simp[s]at h;obtain⟨a',w',hq,c⟩:=j _ _ h b k cs;have hs:=step_op_skip (P:=P) (b:=b) (a:=a) (k:=k) (cs:=cs) (w:=w) (ops:=ops) (i:=i) (rest:=rest++l2)
     AF
    simp[m]at hs;exact⟨a',w',hq,.head hs c⟩
def bO(P:cf)(ks ks':fC)(Q:uaf)(a:Act)(w:aL):Prop:=
 ∀(b:Frame)(cs:dZ),∃a1 w1,Q a1 w1/\Steps P (lone (b.at a ks) cs w) (lone (b.at a1 ks') cs w1)
variable{ks ks':fC}{Q:uaf}{a:Act}{w:aL}
def lp(h:Q a w):bO P ks ks Q a w:=λ_ _=>⟨a,w,h,.refl _ _⟩
def xd{te:fC}{w1:aL}(hs:∀(b:Frame)(cs:dZ),step P (lone (b.at a ks) cs w)=.next (lone (b.at a te) cs w1))(h:bO P te ks' Q a w1):bO P ks ks' Q a w:=λb cs=>by obtain⟨a1,c,e,d⟩:=h b cs;exact⟨a1,c,e,.head (hs b cs) d⟩
def bq(h:bO P (.code x:: .code y::ks) ks' Q a w):bO P (.code (.seq x y)::ks) ks' Q a w:=xd (λ_ _=>step_seq) h
def nr{id:Nat}(h:bO P (.code c:: .inBlock id::ks) ks' Q a w):bO P (.code (.block id c)::ks) ks' Q a w:=xd (λ_ _=>step_block) h
def vz{id:Nat}(h:bO P ks ks' Q a w):bO P (.inBlock id::ks) ks' Q a w:=xd (λ_ _=>step_inBlock) h
def A4(h:bO P (.code c:: .inLoop c::ks) ks' Q a w):bO P (.code (.loop c)::ks) ks' Q a w:=xd (λ_ _=>step_loop) h
def A5(h:bO P (.code c:: .inLoop c::ks) ks' Q a w):bO P (.inLoop c::ks) ks' Q a w:=xd (λ_ _=>step_inLoop) h
def fI{c:uap}{t:Bool}(ht:a.eval c=.bool t)(h:bO P (.code (if t then x else y)::ks) ks' Q a w):bO P (.code (.cond c x y)::ks) ks' Q a w:=xd (λb cs=>by rw[step_cond ht]) h
def nt(h:bO P ks ks' Q a w):bO P (.code .skip::ks) ks' Q a w:=xd (λ_ _=>step_skip) h
def xe{id:Nat}{te:fC}(b:exitTo id ks=some te)(h:bO P te ks' Q a w):bO P (.code (.exit id)::ks) ks' Q a w:=xd (λ_ _=>step_exit b) h
def uq{id:Nat}{ops:du}(h:bO P (.inRegion ops (List.range' 0 ops.size)::ks) ks' Q a w):bO P (.code (.region id ops false)::ks) ks' Q a w:=xd (λb cs=>by rw[step_region,List.range_eq_range']) h
def vA{ops:du}(h:bO P ks ks' Q a w):bO P (.inRegion ops []::ks) ks' Q a w:=xd (λ_ _=>step_region_end) h
def A6(h:c.wp P (kj (bO P ks ks' Q)) a w):bO P (.code c::ks) ks' Q a w:=λb cs=>by obtain⟨e,a1,w1,⟨rfl,hq⟩,f⟩:=h b ks cs;obtain⟨j,d,i,g⟩:=hq b cs;exact⟨j,d,i,Steps.trans f g⟩
def apv{ops:du}{Q:uah}(l:uba):∀k,(∀j(h:j<l.length),ops[k+j]?=some l[j])->wpOps P ops Q (List.range' k l.length)=wpList P ops Q l:=by induction l with|nil=>grind[wpOps,wpList]|cons o l a=>intro k h;have h0:ops[k]?=some o:=h 0 Ab;have ih':=a (k+1) (λj b=>by have:=h (j+1) AF;grind);simp_all[List.range'_succ,wpOps,wpList]
def JW{ops:du}(m:Nat){k len:Nat}(g:m<=len)(i:k+len<=ops.size)(h:wpList P ops (kj (bO P (.inRegion ops (List.range' (k+m) (len-m))::ks) ks' Q)) ((ops.toList.drop k).take m) a w):bO P (.inRegion ops (List.range' k len)::ks) ks' Q a w:=λb cs=>by
 have hlen:((ops.toList.drop k).take m).length=m:=AF;have c:wpOps P ops (kj (bO P (.inRegion ops (List.range' (k+m) (len-m))::ks) ks' Q)) (List.range' k m) a w:=by
  have:=apv (P:=P) (ops:=ops) (Q:=kj (bO P (.inRegion ops (List.range' (k+m) (len-m))::ks) ks' Q)) ((ops.toList.drop k).take m) k (λj l=>by
   grind)
  simp_all
 have d:List.range' k len=List.range' k m++List.range' (k+m) (len-m):=by simp_all
 obtain⟨a1,w1,e,p⟩:=JV (List.range' (k+m) (len-m)) (List.range' k m) a w c b ks cs;obtain⟨q,f,o,n⟩:=e b cs;grind[Steps.trans]
def sg(P:cf)(fn:Func)(ks:fC)(iU:uab)(a:Act)(w:aL):Prop:=
 ∀(f:uaj)(cs:dZ),P.funcs[f]?=some fn->∃v w1 fr,iU v w1/\Steps P (lone ((base f).at a ks) cs w) (lone fr cs w1)/\fr.leaving P w1 (.returned v)
def yK{fn:Func}{iU:uab}(h:bO P ks ks' (sg P fn ks' iU) a w):sg P fn ks iU a w:=λf cs b=>by obtain⟨a1,w1,c,i⟩:=h (base f) cs;obtain⟨v,d,fr,g,e,k3⟩:=c f cs b;grind[Steps.trans]
def Gy{fn:Func}{iU:uab}{v:Value}(hd:a.defers=[])(b:(results fn a.tmps).run P w=.ok v w)(h:iU v w):sg P fn (.code .ret::ks) iU a w:=λf cs c=>
 ⟨v,w,_,h,.one step_ret,U,hd,U,fn,c,b⟩
end
section
variable{P:cf}{Post:uab}{n:Nat}{Shun:uam}{M:c7}{w:aL}{f:uaj}{a:Act}{k k':fC}{cs:dZ}
def X7(g:(c8 P).Good)(j:Home O P M Shun w)(d:ll P f)(e:aM (b9 M) a.tmps a.tmps)(hd:a.defers=[])(hk:k.all (gI P)=true)(i:k'.all (gI P)=true){Q:aL->Act->aL->Prop}(hrun:∀c,gb (c8 P) M (ji M) w c->∀T,bO (ae P true) k k' (λa1 w1=>a1.defers=[]/\Q c a1 w1) a {c with tape:=T})(h:∀ρ c a1 w1 a' w',gb (c8 P) M (ji M) w c->Q c a1 w1->aM ρ a1.tmps a'.tmps->a'.defers=[]->Behind O P M Shun w ρ w1 w'->bU P Post n Shun 0 (aY ((base f).at a' k') cs) w'):
 bU P Post n Shun 0 (aY ((base f).at a k) cs) w:=
 wp_move g j d e hd hk i (λc l T b cs=>by
  obtain⟨a1,w1,⟨p,o⟩,m⟩:=hrun c l T b cs;grind) h
def apw(e:(c8 P).Good)(t:Home O P M Shun w){fn:Func}(j:P.funcs[f]?=some fn)(i:ir P true fn=true)(m:fn.body=some gH)(o:aM (b9 M) a.tmps a.tmps)(hd:a.defers=[])(hk:k.all (gI P)=true){d:uaj}{aF:Act}{aC:du}{aJ:Nat}{aO:e8}{aH:fC}{csZ:dZ}(l:xc P M d aF aC aJ aH){iU:ubo}(hrun:∀b,gb (c8 P) M (ji M) w b->∀T,sg (ae P true) fn k (iU b) a {b with tape:=T})(s:∀ρ b v g u w',gb (c8 P) M (ji M) w b->iU b v g->ar ρ v u->Behind O P M Shun w ρ g w'->bU P Post n Shun 0 (aY ((base d).at (aF.put ((aC[aJ]?).bind (·.dst)) u) (.inRegion aC aO::aH)) csZ) w'):
 bU P Post n Shun 0 (aY ((base f).at a k) ((base d).at aF (.inRegion aC (aJ::aO)::aH)::csZ)) w:=by
 have h:(ae P true).funcs[f]?=some fn:=bB j i;refine apl e t (JQ e ⟨fn,gH,h,m⟩ o hd hk) l (iU:=iU) (λb x T c cs=>?_) s;obtain⟨v,w1,fr,r,q,p⟩:=hrun b x T f (c::cs) h;exact⟨v,w1,r,Steps.trans q (.one (step_leave_returned p))⟩
def C8{fn:Func}(b:P.funcs[f]?=some fn)(a:ir P true fn=true)(c:fn.body=some gH):ll P f:=⟨fn,gH,bB b a,c⟩
end
end
section
variable{O:gW}
def XS(G:ubc):Prop:=∀v M w M' w',Carry (b9 M) w w'->ar (b9 M) v v->(∀b,M b->M' b)->cS M w w'->G v M w->G v M' w'
structure tf(O:gW)(P:cf)(bs:uac)(dd:uas)(m N:Nat)(G:uag)(dh:Nat)(a8:c7)(w0:aL)(g n0 ur:Nat)(au:uat)(a:Act)(M:c7)(w:aL)(n:Nat)(Shun:uam):Prop where
 gn:Home O P M Shun w
 len:au.size=dh
 size:a.tmps.size=N
 defers:a.defers=[]
 all:aM (b9 M) a.tmps a.tmps
 sub:∀b,a8 b->M b
 keep:cS a8 w0 w
 since:mw w0 w
 base:∀p∈bs,a.tmps[p.1]?=some p.2
 facts:∀j,j<m->au.getD j false=true->∃v,a.tmps[dd j]?=some v/\G j v M w
 most:n<=ur/\(au.getD g false=false->n<=n0)
section
variable{P:cf}{bs:uac}{dd:uas}{m N dh:Nat}{G:uag}{a8:c7}{w0:aL}{g n0 ur:Nat}{au:uat}{a:Act}{M:c7}{w:aL}{n:Nat}{Shun:uam}
def tf.start{Shun:uam}(d:Home O P a8 Shun w0)(hs:a.tmps.size=N)(hd:a.defers=[])(c:aM (b9 a8) a.tmps a.tmps)(b:∀p∈bs,a.tmps[p.1]?=some p.2)(hn:n<=ur/\n<=n0):tf O P bs dd m N G dh a8 w0 g n0 ur (Array.replicate dh false) a a8 w0 n Shun:=
 ⟨d,Ab,hs,hd,c,λ_ h=>h,cS.refl _ _,mw.refl _,b,λj _ h=>by
  simp_all[Array.getD],hn.1,λ_=>hn.2⟩
theorem tf.at(f:∀j v M w k,G j v M w->G j v M (w.at k))(k:Nat)(h:tf O P bs dd m N G dh a8 w0 g n0 ur au a M w n Shun):tf O P bs dd m N G dh a8 w0 g n0 ur au a M (w.at k) n Shun:=
 ⟨(h.gn.at _),h.len,h.size,h.defers,h.all,h.sub,h.keep,⟨h.since.size,h.since.later,h.since.output,h.since.tape⟩,h.base,λj c b=>by
  obtain⟨v,e,d⟩:=h.facts j c b;grind,h.most⟩
theorem tf.eval(h:tf O P bs dd m N G dh a8 w0 g n0 ur au a M w n Shun){t:Nat}{v:Value}(b:(t,v)∈bs):a.eval (.tmp t)=v:=by have:=h.base _ b;simp[Act.eval,this]
theorem si{au:uat}{i j:Nat}(hi:i<au.size):(au.setIfInBounds i true).getD j false=true↔j=i\/au.getD j false=true:=by
 rcases vcx j au.size with x|x
 .simp only[Array.getD,vcv,x,dif_pos,Array.getInternal_eq_getElem,Array.getElem_setIfInBounds];grind
 grind
theorem tf.step(h:tf O P bs dd m N G dh a8 w0 g n0 ur au a M w n Shun){j:Nat}{u:Value}{M':c7}{w':aL}{c:Nat}{o:uam}(t:j<m/\j<dh/\dd j<N)(D:∀p∈bs,dd j≠p.1)(x:∀i,i<m->i≠j->dd j≠dd i)(z:∀i,i<m->XS (G i))(B:Home O P M' o w')(d:∀b,M b->M' b)(hk:cS M w w')(hs:mw w w')(s:ar (b9 M') u u)(C:G j u M' w')(hn:c<=ur/\(j≠g->c<=n)):tf O P bs dd m N G dh a8 w0 g n0 ur (au.setIfInBounds j true) (a.put (some (dd j)) u) M' w' c o:=by
 have A:aM (b9 M') a.tmps a.tmps:=h.all.mono (qd d);refine⟨B,by simp[h.len],Gk,Ge,?_,λb y=>d b (h.sub b y),h.keep.trans h.sub hk,h.since.trans hs,λp k=>?_,λi hi l=>?_,hn.1,λl=>?_⟩
 .exact A.set s _
 .have:=h.base p k;simp[Act.put,D p k];grind
 .by_cases e:i=j
  .subst e;exact⟨u,by simp[Act.put,h.size,t.2.2],C⟩
  .have q:au.getD i false=true:=((si Fi).1 l).resolve_left e;obtain⟨v,f,r⟩:=h.facts i hi q;refine⟨v,?_,z i hi v M w M' w' (hk.carry h.gn) ?_ d hk r⟩
   .simp_all[Act.put]
   .exact h.all.get _ _ _ f f
 .by_cases e:j=g
  .have:=(si (au:=au) (i:=j) (j:=g) Fi).2 (.inl e.symm);grind
  .refine vad (hn.2 e) (h.most.2 ?_);simp_all
theorem vB{o:Oper}(h:o.guard=none)(y:Nat->Option Bool):Region.wanted o y=true:=by grind[Region.wanted]
variable{Post:uab}{f:uaj}{ops:du}{rest:e8}{k:fC}{cs:dZ}{o:Oper}{j:Nat}
def tf.val(y:(c8 P).Good)(x:ll P f)(hk:(Item.inRegion ops []::k).all (gI P)=true)(hd:∀i,i<m->i<dh/\dd i<N/\(∀p∈bs,dd i≠p.1)/\∀c,c<m->c≠i->dd i≠dd c)(q:∀i,i<m->XS (G i))(h:tf O P bs dd m N G dh a8 w0 g n0 ur au a M w n Shun)(u:ops[j]?=some o)(d:j<m)(t:o.dst=some (dd j))(z:o.guard=none)(v:Value)(hv:ar (b9 M) v v)(hrun:∀e,gb (c8 P) M (ji M) w e->∀T,(execOp a.eval o).run (ae P true) {e with tape:=T}=.ok (.value v) {e with tape:=T})(D:G j v M w)(K:∀a' M' w' l s,tf O P bs dd m N G dh a8 w0 g n0 ur (au.setIfInBounds j true) a' M' w' l s->bU P Post l s 0 (aY ((Conc.base f).at a' (.inRegion ops rest::k)) cs) w'):
 bU P Post n Shun 0 (aY ((Conc.base f).at a (.inRegion ops (j::rest)::k)) cs) w:=by
 obtain⟨d1,r,B,A⟩:=hd j d;refine apu y h.gn x h.all h.defers hk u (vB z _) ⟨t,by rw[h.size];exact r⟩ hv hrun λM' w' hs C E b F=>?_;exact K _ M' w' n Shun (h.step ⟨d,d1,r⟩ B A q C hs b E (hv.mono (qd hs)) (q j d v M w M' w' (b.carry h.gn) hv hs b D) ⟨h.most.1,AF⟩)
def Tl{ops:du}(a:(List.range ops.size).all (λj=>match ops[j]? with|some o=>o.after.all λe=> !Region.binds .any e||decide (e.on<j)|none=>true)=true)(h:au.size=ops.size)(f:Region.ready .any ops au=[]):∀j,j<ops.size->au.getD j false=true:=by
 intro j;induction j using Nat.strongRecOn with
 | _ j d=>
  intro b;apply vaw;intro hn;have g:j∈Region.ready .any ops au:=by
   refine mem_ready.2 ⟨?_,ops[j],AF,λe c i=>?_⟩
   .grind
   .have:=List.all_eq_true.1 a j AF;simp only[vao b]at this;have:=van.1 this e c;grind
  grind
end
end
section
open RowKit
variable{O:gW}
structure yL(n0:Nat)(ρ:Ren)(w w':aL):Prop where
 cells:Carry ρ w w'
 types:∀a b c e z,ρ.rel a b->w.heap[a]?=some (.cells c e z)->∃c',w'.heap[b]?=some (.cells c' e z)/\c'.size=c.size
 new:∀a b,ρ.rel a b->n0<=a->n0<=b
 inj:∀a a' b,ρ.rel a b->ρ.rel a' b->a=a'
def kE(n0:Nat)(R:uax):Prop:=∀ρ w w' v v',yL n0 ρ w w'->ar ρ v v'->R w v->R w' v'
def qe(n0:Nat)(I:uaf):Prop:=∀ρ a a' w w',yL n0 ρ w w'->aM ρ a.tmps a'.tmps->I a w->I a' w'
def pn(N:Nat)(fs:List (Nat×(aL->Value->Prop)))(a:Act)(w:aL):Prop:=a.tmps.size=N/\∀p∈fs,∃v,a.tmps[p.1]?=some v/\p.2 w v
def yM{n0 N:Nat}{fs:List (Nat×(aL->Value->Prop))}(h:∀p∈fs,kE n0 p.2):qe n0 (pn N fs):=by rintro ρ a a' w w' f c ⟨hs,e⟩;refine⟨by rw[<-c.size];exact hs,λp b=>?_⟩;obtain⟨v,k,j⟩:=e p b;obtain⟨d,i,g⟩:=c.some k;exact⟨d,i,h p b _ _ _ _ _ f g j⟩
section
variable{P:cf}{Post:uab}{n:Nat}{Shun:uam}{M:c7}{w:aL}
def Behind.kX{n0:Nat}{ρ:Ren}{g w':aL}(h:Behind O P M Shun w ρ g w')(hn:n0<=w.heap.size):yL n0 ρ g w':=by
 refine⟨h.carry,λa b c e z r j=>?_,λa b r p=>?_,(by obtain⟨S,d⟩:=h.rel;exact d.inj)⟩
 .obtain⟨S,d⟩:=h.rel;obtain⟨o,o',f,i,k3⟩:=d.obj a b r;rw[j]at f;cases f;cases k3 with|@cells _ q _ _ n l k=>have m:n=z:=k.2 U;subst m;exact⟨_,i,l.size.symm⟩
 .rcases h.old a b r with⟨e,-⟩|h
  .grind
  .omega
def Home.kX{n0:Nat}(d:Home O P M Shun w){g:aL}(f:gb (c8 P) M (ji M) w g)(T:Nat->Question->Nat):yL n0 (b9 M) w {g with tape:=T}:=by refine⟨⟨(f.carry d.cl (.inr λ_ h=>h)).cell,(f.carry d.cl (.inr λ_ h=>h)).map⟩,λa b c e z r i=>?_,λa b r k=>r.1▸k,λa a' b r r'=>r.1.trans r'.1.symm⟩;obtain⟨rfl,j⟩:=r;obtain⟨l,m,n⟩:=f.cells d.cl j i;grind
def cS.kX{n0:Nat}{w':aL}(h:cS M w w')(i:Home O P M Shun w):yL n0 (b9 M) w w':=by refine⟨h.carry i,λa b c e z r d=>?_,λa b r g=>r.1▸g,λa a' b r r'=>r.1.trans r'.1.symm⟩;obtain⟨rfl,f⟩:=r;exact⟨_,h.cells _ _ _ _ f d,U⟩
variable{f:uaj}{a:Act}{k k':fC}{cs:dZ}{n0:Nat}
structure Held(O:gW)(P:cf)(a8:c7)(w0:aL)(n0:Nat)(a:Act)(M:c7)(w:aL)(Shun:uam):Prop where
 gn:Home O P M Shun w
 sub:∀b,a8 b->M b
 since:mw w0 w
 keep:cS (λb=>a8 b/\b<n0) w0 w
 all:aM (b9 M) a.tmps a.tmps
 defers:a.defers=[]
 size:n0<=w.heap.size
def Held.start(c:Home O P M Shun w)(hn:n0<=w.heap.size)(b:aM (b9 M) a.tmps a.tmps)(hd:a.defers=[]):Held O P M w n0 a M w Shun:=⟨c,λ_ h=>h,.refl _,.refl _ _,b,hd,hn⟩
variable{a8:c7}{w0:aL}
theorem Held.at(h:Held O P a8 w0 n0 a M w Shun)(k:Nat):Held O P a8 w0 n0 a M (w.at k) Shun:=
 ⟨(h.gn.at _),h.sub,⟨h.since.size,h.since.later,h.since.output,h.since.tape⟩,h.keep,h.all,h.defers,h.size⟩
def Held.next(h:Held O P a8 w0 n0 a M w Shun){ρ:Ren}{f e w':aL}{T:Nat->Question->Nat}(j:gb (c8 P) M (ji M) w f)(d:Behind O P M Shun w ρ e w')(c:Below n0 {f with tape:=T} e){a':Act}(i:aM (b9 (qa ρ)) a'.tmps a'.tmps)(hd:a'.defers=[]):Held O P a8 w0 n0 a' (qa ρ) w' Shun:=
 ⟨d.gn,λb c=>d.mem (h.sub b c),h.since.trans d.since,h.keep.trans (M':=λb=>M b/\b<n0) (λb c=>⟨h.sub b c.1,c.2⟩) (d.Yb h.gn j AF λb _ hn g=>(c.block b hn.2).trans g),i,hd,vad h.size d.since.size⟩
def Tm(o:(c8 P).Good)(l:ll P f)(H:Held O P a8 w0 n0 a M w Shun)(hk:k.all (gI P)=true)(r:k'.all (gI P)=true){I J:uaf}(m:qe n0 I)(p:qe n0 J)(h0:I a w)(hrun:∀W,n0<=W.heap.size->I a W->bO (ae P true) k k' (λa1 w1=>a1.defers=[]/\J a1 w1/\Below n0 W w1) a W)(q:∀a' M' w',Held O P a8 w0 n0 a' M' w' Shun->J a' w'->bU P Post n Shun 0 (aY ((base f).at a' k') cs) w'):
 bU P Post n Shun 0 (aY ((base f).at a k) cs) w:=by
 refine X7 o H.gn l H.all H.defers hk r (Q:=λc a1 w1=>J a1 w1/\∃T,Below n0 {c with tape:=T} w1) (λc d T b cs=>?_) ?_
 .obtain⟨a1,w1,⟨j,i,g⟩,h⟩:=hrun {c with tape:=T} (by show n0<=c.heap.size;rw[d.size];exact H.size) (m _ _ _ _ _ (H.gn.kX d T) H.all h0) b cs;grind
 .rintro ρ c a1 w1 a' w' d ⟨j,T,i⟩ g h e;exact q a' (qa ρ) w' (H.next d e i (e.all g) h) (p _ _ _ _ _ (e.kX H.size) g j)
def NG(s:(c8 P).Good){fn:Func}(o:P.funcs[f]?=some fn)(m:ir P true fn=true)(q:fn.body=some gH)(H:Held O P a8 w0 n0 a M w Shun)(hk:k.all (gI P)=true){i:uaj}{aF:Act}{aC:du}{aJ:Nat}{aO:e8}{aH:fC}{csZ:dZ}(p:xc P a8 i aF aC aJ aH){I:uaf}{iU:uax}(r:qe n0 I)(x:kE n0 iU)(h0:I a w)(hrun:∀W,n0<=W.heap.size->I a W->sg (ae P true) fn k (λv w1=>iU w1 v/\Below n0 W w1) a W)(t:∀u M' w',Home O P M' Shun w'->(∀b,a8 b->M' b)->ar (b9 M') u u->mw w0 w'->cS (λb=>a8 b/\b<n0) w0 w'->iU w' u->bU P Post n Shun 0 (aY ((base i).at (aF.put ((aC[aJ]?).bind (·.dst)) u) (.inRegion aC aO::aH)) csZ) w'):
 bU P Post n Shun 0 (aY ((base f).at a k) ((base i).at aF (.inRegion aC (aJ::aO)::aH)::csZ)) w:=by
 refine apw s H.gn o m q H.all H.defers hk (p.mono H.sub) (iU:=λc v w1=>iU w1 v/\∃T,Below n0 {c with tape:=T} w1) (λc e T f cs y=>?_) ?_
 .obtain⟨v,w1,fr,⟨l,j⟩,h,z⟩:=hrun {c with tape:=T} Ix (r _ _ _ _ _ (H.gn.kX e T) H.all h0) f cs y;grind
 .rintro ρ c v A u w' e ⟨l,T,j⟩ h g;have d:=H.next e g j (a':=⟨#[],[]⟩) ⟨U,AF⟩ U;exact t u (qa ρ) w' d.gn d.sub (g.val h) d.since d.keep (x _ _ _ _ _ (g.kX H.size) h l)
variable{ops:du}{i:Nat}{rest:e8}{o:Oper}
def Tn{d:Nat}{g:uaj}{m:Func}{args:uav}{ats:uar}(l:o.op=.call {callee:=.value (.func g),args,argTypes:=ats})(hg:P.funcs[g]?=some m)(s:(m.name== "runtime.NumGoroutine")=false)(c:m.body=some gH)(hn:n+16*d<=200)(y:ll P f)(H:Held O P a8 w0 n0 a M w Shun)(hk:(Item.inRegion ops []::k).all (gI P)=true)(x:ops[i]?=some o)(E:o.guard=none){j:Tmp}(t:o.dst=some j/\j<a.tmps.size){I J:uaf}{n7:uax}(z:qe n0 I)(h0:I a w)(v:∀k,gJ O P Post g (args.map a.eval) M (w.at k) d (λu _ w'=>n7 w' u/\cS M w w'))(D:∀u w',I a w'->n7 w' u->J (a.put (some j) u) w')(F:∀a' M' w' e h,e<=n+16*d->Held O P a8 w0 n0 a' M' w' h->J a' w'->bU P Post e h 0 (aY ((base f).at a' (.inRegion ops rest::k)) cs) w'):
 bU P Post n Shun 0 (aY ((base f).at a (.inRegion ops (i::rest)::k)) cs) w:=by
 simp only[vbi,vaf]at hk;refine X9 l hg s c U hn H.gn ⟨y,.inl H.all,H.defers,hk.1,hk.2,AF⟩ x (vB E _) v ?_;rintro u M' w' e h C B q A r ⟨K,p⟩;rw[t.1];refine F _ M' w' e h C ⟨B,λb c=>q b (H.sub b c),H.since.trans r,H.keep.trans (λb c=>H.sub b c.1) p,?_,Gj,vad H.size r.size⟩ (D u w' (z _ _ _ _ _ (p.kX H.gn) H.all h0) K);exact(H.all.mono (qd q)).set A _
def apA(S:(c8 P).Good)(D:P.follows .mixedOrders=true)(y:ll P f)(hk:(Item.inRegion ops []::k).all (gI P)=true)(g:Nat){j:Oper}{d:Nat}{gf:uaj}{s:Func}{args:uav}{ats:uar}(v:ops[g]?=some j)(q:j.op=.call {callee:=.value (.func gf),args,argTypes:=ats})(C:P.funcs[gf]?=some s)(E:(s.name== "runtime.NumGoroutine")=false)(Q:s.body=some gH)(T:j.guard=none)(hn:n+16*d<=200){I:ubn}(l:∀au,qe n0 (I au)){p:Tmp}(V:j.dst=some p)(Z:∀au a w,I au a w->p<a.tmps.size){n7:uax}(hsz:∀au a w,I au a w->au.size=ops.size)(H:Held O P a8 w0 n0 a M w Shun)(h0:I (Array.replicate ops.size false) a w)(hstep:∀au a W i o,I au a W->a.defers=[]->n0<=W.heap.size->i≠g->au.getD i true=false->ops[i]?=some o->(∀e∈o.after,Region.binds .any e=true->au.getD e.on false=true)->wpOps (ae P true) ops (kj λa1 w1=>a1.defers=[]/\I (au.setIfInBounds i true) a1 w1/\Below n0 W w1) [i] a W)(N:∀au a M w Shun,Held O P a8 w0 n0 a M w Shun->I au a w->au.getD g false=false->(∀e∈j.after,Region.binds .any e=true->au.getD e.on false=true)->gJ O P Post gf (args.map a.eval) M w d (λu _ w'=>n7 w' u/\cS M w w'))(L:∀au a w u,I au a w->au.getD g false=false->(∀e∈j.after,Region.binds .any e=true->au.getD e.on false=true)->n7 w u->I (au.setIfInBounds g true) (a.put (some p) u) w)(X:∀au a M' w' c B,I au a w'->Region.ready .any ops au=[]->c<=n+16*d->Held O P a8 w0 n0 a M' w' B->bU P Post c B 0 (aY ((base f).at a (.inRegion ops []::k)) cs) w'){id:Nat}:bU P Post n Shun 0 (aY ((base f).at a (.code (.region id ops true)::k)) cs) w:=by
 have Y:∀au a M w Shun k,Held O P a8 w0 n0 a M w Shun->I au a w->I au a (w.at k):=λau a M w Shun k H h=>l au _ _ _ _ _ ((cS.Gx M w k).kX H.gn) H.all h;refine X8 D (I:=λau a M w c Shun=>Held O P a8 w0 n0 a M w Shun/\I au a w/\c<=n+16*d/\(au.getD g false=false->c<=n)) (λau a M w c Shun k h=>⟨h.1.at k,AF,h.2.2⟩) ?_ AF ⟨H,h0,vdc _ _,λ_=>vac _⟩;intro au a M w c Shun i o rest ⟨H,hi,Aj,A8⟩ F r m K;have FK:i<au.size:=by grind
 by_cases t:i=g
 .subst t;rw[v]at r;cases r;have x:au.getD i false=false:=by grind
  refine Tn q C E Q AF y H hk v T AF (I:=I au) (J:=I (au.setIfInBounds i true)) (n7:=n7) (l au) hi (λk=>N au a M (w.at k) Shun (H.at k) AF x m) (λu w' A z=>L au a w' u A x m z) ?_;grind[si]
 .refine Tm S y H (k:=.inRegion ops (i::rest)::k) (k':=.inRegion ops rest::k) CE CE (I:=I au) (J:=I (au.setIfInBounds i true)) (l au) (l _) hi (λW R U b cs=>?_) ?_
  .obtain⟨a1,w1,A,z⟩:=JV rest [i] a W (hstep au a W i o U H.defers R t F r m) b k cs;grind
  grind[si]
end
end
section
open RowKit
section
variable{ρ:Ren}
theorem To:∀{l b:uad},l.length=b.length->(∀(i:Nat)(v a:Value),l[i]?=some v->b[i]?=some a->ar ρ v a)->cL (ar ρ) l b
 | [],[],_,_=>.nil
 | [],_::_,hs,_=>AF
 | _::_,[],hs,_=>AF
 | _::_,_::_,hs,h=>.cons (h 0 _ _ U U) (To AF λi v a d c=>h (i+1) v a AF AF)
def XM{l:uad}{b:df}(hs:l.toArray.size=b.size)(h:∀(i:Nat)(v a:Value),l.toArray[i]?=some v->b[i]?=some a->ar ρ v a):∃c,b=c.toArray/\cL (ar ρ) l c:=by grind[To]
def Gz{l:uad}{u:Value}(h:ar ρ (.tuple l.toArray) u):∃a,u=.tuple a.toArray/\cL (ar ρ) l a:=by cases h with|tuple hs hg=>obtain⟨a,rfl,k⟩:=XM hs hg;grind
def ra{l:uad}{u:Value}(h:ar ρ (.agg l.toArray) u):∃a,u=.agg a.toArray/\cL (ar ρ) l a:=by cases h with|agg hs hg=>obtain⟨a,rfl,k⟩:=XM hs hg;grind
def gX{k:IntKind}{n:Int}{u:Value}(h:ar ρ (.int k n) u):u=.int k n:=by cases h;rfl
def XK{b:Bool}{u:Value}(h:ar ρ (.bool b) u):u=.bool b:=by cases h;rfl
def l8{l c:Nat}{u:Value}(h:ar ρ (.slice none l c) u):u=.slice none l c:=by cases h;rfl
def xf{b o l c:Nat}{u:Value}(h:ar ρ (.S b o l c) u):∃a,u=.S a o l c/\ρ.rel b a:=by cases h with|@slice _ a' _ _ r=>obtain⟨a,o',s'⟩:=a';obtain⟨e,d,k3⟩:=r;grind
def NJ{a:uan}{l c:Nat}{u:Value}(h:ar ρ (.slice a l c) u):∃b,u=.slice b l c:=by cases h with|j2=>grind|slice=>grind
def A9{b o:Nat}{u:Value}(h:ar ρ (.P b o) u):∃a,u=.P a o/\ρ.rel b a:=by cases h with|@ptr _ a' r=>obtain⟨a,o',s'⟩:=a';obtain⟨d,c,k3⟩:=r;grind
end
variable{n0:Nat}
def eE(x:Value)(_:aL)(v:Value):Prop:=v=x
theorem A_(k:IntKind)(i:Int):kE n0 (eE (.int k i)):=λ_ _ _ _ _ _ hv h=>by cases h;exact gX hv
def apC(b:Bool):kE n0 (eE (.bool b)):=λ_ _ _ _ _ _ hv h=>by cases h;exact XK hv
def apD:kE n0 (eE undef):=λ_ _ _ _ _ _ hv h=>by cases h;obtain⟨a,rfl,k⟩:=Gz (l:=[]) hv;cases k;rfl
def apE(a b:Int):kE n0 (eE (.agg #[.I a,.I b])):=λ_ _ _ _ _ _ hv h=>by
 cases h;obtain⟨e,rfl,k⟩:=ra hv;cases k with
 |cons d k=>cases k with
  |cons c k=>cases k;rw[gX d,gX c];rfl
def rb(R:uax):Prop:=∀w w' v,cC w w'->R w v->R w' v
def rb.eq(x:Value):rb (eE x):=λ_ _ _ _ h=>h
theorem Tq(n j:Nat):(Array.replicate n false).getD j false=false:=by simp_all[Array.getD]
def h7{P:cf}{ops:du}{Q:uah}{R:uaf}{i:Nat}{rest:e8}{a:Act}{w:aL}(h:wpOps P ops (kj R) [i] a w)(k:∀a w,R a w->wpOps P ops Q rest a w):wpOps P ops Q (i::rest) a w:=by
 simp[wpOps]at h⊢;cases m:ops[i]? with
 |none=>simp[m]at h⊢;exact k _ _ h.2
 |some o=>
  simp[m]at h⊢;by_cases l:Region.wanted o (yielded ops a.tmps)=true
  .simp[l]at h⊢;rcases h with h|⟨-,j,b,hq⟩
   .refine .inl ?_;simp[Oper.wp,Oper.upon]at h⊢;generalize(execOp a.eval o).run P w=r at h⊢;cases r with
    |ok x w'=>
     cases x with
     |value v=>exact k _ _ h.2
     |skip=>exact k _ _ h.2
     |defer d=>exact k _ _ h.2
     |enter f args=>refine vcp h ?_;intro e w'' g;cases e with|returned v=>exact k _ _ g.2|panicked c=>cases g.1|outgrown=>obtain⟨j,b,hq⟩:=g;cases hq.1
     |row r args=>exact Rows.mono h λ_ _ g=>k _ _ g.2
     | _=>exact h.elim
    |halt x w'=>cases x<;>first|exact h.elim|(cases h.1)
   .cases hq.1
  .simp[l]at h⊢;exact k _ _ h.2
theorem XJ{P:cf}{ops:du}{Q:uaf}{i:Nat}{o:Oper}{a:Act}{w w1:aL}{v:Value}(d:ops[i]?=some o)(b:Region.wanted o (yielded ops a.tmps)=true){s:Nat}(hd:o.dst=some s)(c:(execOp a.eval o).run P w=.ok (.value v) w1)(h:Q (a.put (some s) v) w1):wpOps P ops (kj Q) [i] a w:=by simp[wpOps,d,b];refine .inl ?_;simp[Oper.wp,Oper.upon,c,hd];exact⟨U,h⟩
def apF{P:cf}{ops:du}{Q:uaf}{i:Nat}{o:Oper}{a:Act}{w:aL}(d:ops[i]?=some o)(b:Region.wanted o (yielded ops a.tmps)=true){s:Nat}(hd:o.dst=some s){f:uaj}{args:df}(c:(execOp a.eval o).run P w=.ok (.enter f args) w)(h:Calls P f args w λe w'=>∃v,e=.returned v/\Q (a.put (some s) v) w'):wpOps P ops (kj Q) [i] a w:=by simp[wpOps,d,b];refine .inl ?_;simp[Oper.wp,Oper.upon,c,hd];refine h.mono ?_;rintro e w' ⟨v,rfl,h⟩;exact⟨U,h⟩
def Xz{P:cf}{ops:du}{Q:uaf}{i:Nat}{o:Oper}{a:Act}{w:aL}(c:ops[i]?=some o)(b:Region.wanted o (yielded ops a.tmps)=false){s:Nat}(hd:o.dst=some s)(h:Q (a.put (some s) undef) w):wpOps P ops (kj Q) [i] a w:=by simp[wpOps,c,b,hd];exact⟨U,h⟩
section
variable{P:cf}{ops:du}{Q:uaf}{i:Nat}{o:Oper}{a:Act}{w w1:aL}{v:Value}
def nu(c:ops[i]?=some o)(d:o.guard=none){s:Nat}(hd:o.dst=some s)(b:(execOp a.eval o).run P w=.ok (.value v) w1)(h:Q (a.put (some s) v) w1):wpOps P ops (kj Q) [i] a w:=XJ c (vB d _) hd b h
def qf(c:ops[i]?=some o)(d:o.guard=none)(hd:o.dst=none)(b:(execOp a.eval o).run P w=.ok .skip w1)(h:Q a w1):wpOps P ops (kj Q) [i] a w:=by simp[wpOps,c,vB d];refine .inl ?_;simp[Oper.wp,Oper.upon,b,hd];exact⟨U,h⟩
end
def apG{ops:du}{o:Oper}{tmps:df}{g d:Nat}{b c:Bool}(hg:o.guard=some (g,b))(hd:(ops[g]?).bind (·.dst)=some d)(ht:tmps[d]?=some (.bool c)):Region.wanted o (yielded ops tmps)=(c==b):=by grind[Region.wanted,yielded]
def apH{ops:du}{o:Oper}{tmps:df}{g d:Nat}{b:Bool}(hg:o.guard=some (g,b))(hd:(ops[g]?).bind (·.dst)=some d)(ht:tmps[d]?=some undef):Region.wanted o (yielded ops tmps)=false:=by unfold Region.wanted yielded;simp only[hg,hd,Option.bind_some,ht];cases b<;>rfl
def apI{P:cf}{ops:du}{Q:uah}{R K:uaf}{i:Nat}{a:Act}{w:aL}(h:wpOps P ops (kj R) [i] a w)(k:∀a w,R a w->K a w):wpOp P ops Q i K a w:=by
 rw[wpOps_cons]at h;have h:=wpOp_mono (K':=R) (λa w(n:wpOps P ops (kj R) [] a w)=>n.2) h;unfold wpOp at h⊢;cases m:ops[i]? with
 |none=>grind
 |some o=>
  simp[m]at h⊢;by_cases l:Region.wanted o (yielded ops a.tmps)=true
  .simp[l]at h⊢;rcases h with h|⟨-,g,b,hq⟩
   .refine .inl ?_;simp[Oper.wp,Oper.upon]at h⊢;generalize(execOp a.eval o).run P w=r at h⊢;cases r with
    |ok x w'=>
     cases x with
     |value v=>grind
     |skip=>grind
     |defer d=>grind
     |enter f args=>refine vcp h ?_;intro e w'' j;cases e with|returned v=>grind|panicked c=>cases j.1|outgrown=>obtain⟨g,b,hq⟩:=j;cases hq.1
     |row r args=>grind[Rows.mono]
     | _=>exact h.elim
    |halt x w'=>cases x<;>first|exact h.elim|(cases h.1)
   .cases hq.1
  grind
def xg{P:cf}{ops:du}{ks ks':fC}{Q:uaf}{a:Act}{w:aL}{l:e8}(h:wpOps P ops (kj (bO P (.inRegion ops []::ks) ks' Q)) l a w):bO P (.inRegion ops l::ks) ks' Q a w:=λb cs=>by obtain⟨a1,w1,c,g⟩:=JV [] l a w h b ks cs;obtain⟨i,d,f,e⟩:=c b cs;grind[Steps.trans]
def Tr{P:cf}{id n:Nat}{ops:du}{ks ks':fC}{Q:uaf}{a:Act}{w:aL}(hn:ops.size=n)(h:wpOps P ops (kj (bO P (.inRegion ops []::ks) ks' Q)) (List.range' 0 n) a w):bO P (.code (.region id ops false)::ks) ks' Q a w:=uq (xg (hn▸h))
theorem n8{P:cf}{ops:du}{ks ks':fC}{Q:uaf}{a:Act}{w:aL}(h:bO P ks ks' Q a w):wpOps P ops (kj (bO P (.inRegion ops []::ks) ks' Q)) [] a w:=⟨U,vA h⟩
theorem cB{a:Act}{t:Nat}{v:Value}(h:a.tmps[t]?=some v):a.eval (.tmp t)=v:=by simp[Act.eval,h]
theorem dF{a:Act}{t s:Nat}{v:Value}(h:t≠s):(a.put (some t) v).tmps[s]?=a.tmps[s]?:=by simp[Act.put,h]
def jz{a:Act}{t:Nat}{v:Value}(h:t<a.tmps.size):(a.put (some t) v).tmps[t]?=some v:=by simp[Act.put,h]
end
open RowKit
structure a5 where
 R:aL->Value->Prop
 h8:rb R
 ok:Nat->Prop
 io:∀n,ok n->kE n R
def JX(n:Nat):List (Nat×a5)->Prop
 | []=>True
 |p::l=>p.2.ok n/\JX n l
abbrev bJ:=Nat->Option a5
def up(K:bJ)(s:Nat)(F:a5):bJ:=λi=>if i=s then some F else K i
def a3:List (Nat×a5)->bJ
 | [],_=>none
 |p::l,s=>if s=p.1 then some p.2 else a3 l s
structure af(N:Nat)(K:bJ)(a:Act)(w:aL):Prop where
 size:a.tmps.size=N
 has:∀s F,K s=some F->∃v,a.tmps[s]?=some v/\F.R w v
def Ba(K:bJ):List (Nat×a5)->Prop
 | []=>True
 |p::l=>K p.1=some p.2/\Ba K l
theorem Xw{K:bJ}:∀{l:List (Nat×a5)},Ba K l->∀s F,a3 l s=some F->K s=some F
 | [],_,_,_,h=>by cases h
 |p::l,hi,s,F,h=>by
  unfold a3 at h;split at h
  .rename_i e;rw[e,<-h];exact hi.1
  .exact Xw hi.2 s F h
theorem jO{n:Nat}:∀{l:List (Nat×a5)},JX n l->∀s F,a3 l s=some F->F.ok n
 | [],_,_,_,h=>by cases h
 |p::l,hi,s,F,h=>by
  unfold a3 at h;split at h
  .cases h;exact hi.1
  .exact jO hi.2 s F h
section
variable{N:Nat}{K K':bJ}{a:Act}{w w1:aL}
def af.sub(h:af N K a w)(hs:∀s F,K' s=some F->K s=some F):af N K' a w:=⟨h.size,λs F e=>h.has s F (hs s F e)⟩
def af.aZ{l:List (Nat×a5)}(h:af N K a w)(hs:Ba K l):af N (a3 l) a w:=h.sub (Xw hs)
theorem af.h8(h:af N K a w)(b:cC w w1):af N K a w1:=⟨h.size,λs F e=>by
 obtain⟨v,d,c⟩:=h.has s F e;exact⟨v,d,F.h8 _ _ _ b c⟩⟩
theorem af.put(h:af N K a w){s:Nat}(hs:s<N)(b:cC w w1){F:a5}{v:Value}(hv:F.R w1 v):af N (up K s F) (a.put (some s) v) w1:=by
 refine⟨Gk,λi G e=>?_⟩;unfold up at e;split at e
 .rename_i hi;cases e;subst hi;exact⟨v,jz (by rw[h.size];exact hs),hv⟩
 .rename_i hi;obtain⟨x,d,c⟩:=h.has i G e;exact⟨x,(dF (Ne.symm hi)).trans d,G.h8 _ _ _ b c⟩
def lq(n:Nat)(hok:∀s F,K s=some F->F.ok n):qe n (af N K):=by intro ρ a a' w w' d b h;refine⟨by rw[<-b.size];exact h.size,λs F e=>?_⟩;obtain⟨v,j,i⟩:=h.has s F e;obtain⟨c,g,f⟩:=b.some j;exact⟨c,g,F.io _ (hok s F e) _ _ _ _ _ d f i⟩
end
def bl(K:bJ):Operand->a5->Prop
 | .tmp s,F=>K s=some F
 | .const v,F=>∀w,F.R w v
 | _,_=>False
def af.ev{N:Nat}{K:bJ}{a:Act}{w:aL}(h:af N K a w){x:uap}{F:a5}(b:bl K x F):F.R w (a.eval x):=by
 cases x with
 |tmp s=>obtain⟨v,d,c⟩:=h.has s F b;grind[cB]
 |const v=>exact b w
 | _=>exact b.elim
def yO(P:cf)(o:Oper)(F:a5)(a:Act)(w:aL):Prop:=
 (∃v w1,(execOp a.eval o).run P w=.ok (.value v) w1/\F.R w1 v/\cC w w1)\/∃f args,(execOp a.eval o).run P w=.ok (.enter f args) w/\Calls P f args w λe w'=>∃v,e=.returned v/\F.R w' v/\cC w w'
def bA(P:cf)(N:Nat)(K:bJ)(o:Oper)(F:a5):Prop:=∀a w,af N K a w->yO P o F a w
def Xq{P:cf}{ops:du}{i s:Nat}{o:Oper}{F:a5}{a:Act}{w:aL}(e:ops[i]?=some o)(d:Region.wanted o (yielded ops a.tmps)=true)(hd:o.dst=some s)(h:yO P o F a w):wpOps P ops (kj λa1 w1=>(∃v,a1=a.put (some s) v/\F.R w1 v)/\cC w w1) [i] a w:=by
 rcases h with⟨v,w1,c,b,g⟩|⟨f,args,c,b⟩
 .grind[XJ]
 .refine apF e d hd c (b.mono ?_);grind
def bd(n:Int):a5:=⟨eE (.I n),rb.eq _,λ_=>True,λ_ _=>A_ _ _⟩
def eN(b:Bool):a5:=⟨eE (.bool b),rb.eq _,λ_=>True,λ_ _=>apC _⟩
def pp:a5:=⟨eE undef,rb.eq _,λ_=>True,λ_ _=>apD⟩
def GA(s:ByteArray):a5:=⟨eE (.string s),rb.eq _,λ_=>True,λ_ _ _ _ _ _ _ _ hv h=>by cases h;cases hv;rfl⟩
def ew(v:Value):a5:=⟨eE v,rb.eq _,λ_=>False,λ_ h=>h.elim⟩
def sj(ops:du)(K:bJ)(o:Oper)(c:Bool):Prop:=
 match o.guard with
 |none=>c=true
 |some (g,b)=>∃d,(ops[g]?).bind (·.dst)=some d/\((∃x,K d=some (eN x)/\c=(x==b))\/K d=some pp/\c=false)
def sj.is{ops:du}{K:bJ}{o:Oper}{c:Bool}{N:Nat}{a:Act}{w:aL}(h:sj ops K o c)(hk:af N K a w):Region.wanted o (yielded ops a.tmps)=c:=by
 unfold sj at h;split at h
 .grind[vB]
 .rename_i g b e;obtain⟨d,k,⟨x,j,rfl⟩|⟨j,rfl⟩⟩:=h
  .obtain⟨v,i,f⟩:=hk.has d _ j;cases f;exact apG e k i
  .obtain⟨v,i,f⟩:=hk.has d _ j;cases f;exact apH e k i
def NK(P:cf)(N:Nat)(ops:du)(K:bJ)(o:Oper)(F:a5):Prop:=(sj ops K o true/\bA P N K o F)\/(sj ops K o false/\F=pp)
theorem NK.step{P:cf}{N:Nat}{ops:du}{K:bJ}{o:Oper}{F:a5}(h:NK P N ops K o F){a:Act}{w:aL}{i s:Nat}(hk:af N K a w)(c:ops[i]?=some o)(hd:o.dst=some s):wpOps P ops (kj λa1 w1=>(∃v,a1=a.put (some s) v/\F.R w1 v)/\cC w w1) [i] a w:=by
 rcases h with⟨b,d⟩|⟨b,rfl⟩
 .exact Xq c (b.is hk) hd (d a w hk)
 .exact Xz c (b.is hk) hd ⟨⟨undef,U,U⟩,vaa _ _⟩
def vD(P:cf)(N:Nat)(ops:du):List Oper->bJ->bJ->Prop
 | [],K,K'=>K=K'
 |o::l,K,K'=>∃d,o.dst=some d/\d<N/\∃F,NK P N ops K o F/\vD P N ops l (up K d F) K'
def ao{P:cf}{N:Nat}{ops:du}{o:Oper}{l:uba}{K K':bJ}{d:Nat}{F:a5}(hd:o.dst=some d)(a:bA P N K o F)(h:vD P N ops l (up K d F) K')(hg:o.guard=none:=by rfl)(a4:d<N:=by decide):vD P N ops (o::l) K K':=⟨d,hd,a4,F,.inl ⟨Gl,a⟩,h⟩
def ea{P:cf}{N:Nat}{ops:du}{o:Oper}{l:uba}{K K':bJ}{d g t:Nat}{b:Bool}{F:a5}(hd:o.dst=some d)(a:bA P N K o F)(h:vD P N ops l (up K d F) K')(a4:d<N:=by decide)(hg:o.guard=some (g,b):=by rfl)(ht:(ops[g]?).bind (·.dst)=some t:=by rfl)(hk:K t=some (eN b):=by rfl):vD P N ops (o::l) K K':=⟨d,hd,a4,F,.inl ⟨Gl,a⟩,h⟩
def yP{P:cf}{N:Nat}{ops:du}{o:Oper}{l:uba}{K K':bJ}{d g t:Nat}{b c:Bool}(hd:o.dst=some d)(h:vD P N ops l (up K d pp) K')(a4:d<N:=by decide)(hg:o.guard=some (g,b):=by rfl)(ht:(ops[g]?).bind (·.dst)=some t:=by rfl)(hk:K t=some (eN c):=by rfl)(a:(c==b)=false:=by rfl):vD P N ops (o::l) K K':=⟨d,hd,a4,pp,.inr ⟨Gl,U⟩,h⟩
theorem NL{P:cf}{N:Nat}{ops:du}{Q:uah}{rest:e8}:∀{l:uba}{i:Nat}{K K':bJ}{a:Act}{w:aL},vD P N ops l K K'->(∀j o,l[j]?=some o->ops[i+j]?=some o)->af N K a w->(∀a' w',af N K' a' w'->a'.defers=a.defers->cC w w'->wpOps P ops Q rest a' w')->wpOps P ops Q (List.range' i l.length++rest) a w
 | [],i,K,K',a,w,h,_,hk,k=>by cases h;grind[Below.refl]
 |o::l,i,K,K',a,w,⟨d,hd,a4,F,c,h⟩,hi,hk,k=>by rw[vdo,List.range'_succ,List.cons_append];refine h7 (c.step hk (hi 0 o U) hd) ?_;rintro a1 w1 ⟨⟨v,rfl,hv⟩,b⟩;refine NL h (λj o' m=>by have:=hi (j+1) o' AF;grind) (hk.put a4 b hv) λa' w' g f e=>k a' w' g (f.trans (put_defers _ _ _)) (b.trans (e.mono b.size))
def c5{P:cf}{N id:Nat}{ops:du}{ks ks':fC}{Q:uaf}{K K':bJ}{a:Act}{w:aL}(hk:af N K a w)(h:vD P N ops ops.toList K K')(k:∀a' w',af N K' a' w'->a'.defers=a.defers->cC w w'->bO P ks ks' Q a' w'):bO P (.code (.region id ops false)::ks) ks' Q a w:=by refine Tr (n:=ops.toList.length) Ab ?_;rw[<-vce (List.range' 0 ops.toList.length)];grind[NL,n8]
def vE(K:bJ)(ops:du)(acc:bJ)(o:Oper):bJ:=λs=>
 match o.after.toList.find? (λe=>Region.binds .any e&&((ops[e.on]?).bind (·.dst)==some s))with
 |some e=>acc e.on
 |none=>K s
def yQ(qc:Nat->Oper->Option Nat)(bz:ube)(X:Nat->bJ->Oper->a5->Prop)(N:Nat):List Oper->Nat->bJ->bJ->bJ->Prop
 | [],_,_,gY,K'=>gY=K'
 |o::l,j,acc,gY,K'=>∃d,qc j o=some d/\d<N/\∃F,X j acc o F/\yQ qc bz X N l (j+1) (up acc j F) (if bz j then up gY d F else gY) K'
abbrev Bb(P:cf)(N:Nat)(ops:du)(K:bJ):List Oper->Nat->bJ->bJ->bJ->Prop:=yQ (λ_ o=>o.dst) (λ_=>true) (λ_ acc o=>NK P N ops (vE K ops acc o) o) N
section
variable{P:cf}{N:Nat}{ops:du}{K:bJ}{o:Oper}{l:uba}{j:Nat}{acc gY K':bJ}{d:Nat}{F:a5}
def dq(hd:o.dst=some d)(a:bA P N (vE K ops acc o) o F)(h:Bb P N ops K l (j+1) (up acc j F) (up gY d F) K')(hg:o.guard=none:=by rfl)(a4:d<N:=by decide):Bb P N ops K (o::l) j acc gY K':=⟨d,hd,a4,F,.inl ⟨Gl,a⟩,h⟩
def dL{g t:Nat}{b:Bool}(hd:o.dst=some d)(a:bA P N (vE K ops acc o) o F)(h:Bb P N ops K l (j+1) (up acc j F) (up gY d F) K')(a4:d<N:=by decide)(hg:o.guard=some (g,b):=by rfl)(ht:(ops[g]?).bind (·.dst)=some t:=by rfl)(hk:vE K ops acc o t=some (eN b):=by rfl):Bb P N ops K (o::l) j acc gY K':=⟨d,hd,a4,F,.inl ⟨Gl,a⟩,h⟩
def gZ{g t:Nat}{b c:Bool}(hd:o.dst=some d)(h:Bb P N ops K l (j+1) (up acc j pp) (up gY d pp) K')(a4:d<N:=by decide)(hg:o.guard=some (g,b):=by rfl)(ht:(ops[g]?).bind (·.dst)=some t:=by rfl)(hk:vE K ops acc o t=some (eN c):=by rfl)(a:(c==b)=false:=by rfl):Bb P N ops K (o::l) j acc gY K':=⟨d,hd,a4,pp,.inr ⟨Gl,U⟩,h⟩
theorem yQ.all{qc:Nat->Oper->Option Nat}{f:ube}{X:Nat->bJ->Oper->a5->Prop}:∀{l:uba}{j:Nat}{acc gY:bJ},yQ qc f X N l j acc gY K'->∃c0:Nat->a5,(∀i o,l[i]?=some o->∃d,qc (j+i) o=some d/\d<N/\X (j+i) (λs=>if j<=s/\s<j+i then some (c0 s)else acc s) o (c0 (j+i)))/\∀s F,K' s=some F->(∃i o,l[i]?=some o/\qc (j+i) o=some s/\F=c0 (j+i)/\f (j+i)=true)\/gY s=some F
 | [],j,acc,gY,h=>by cases h;exact⟨λ_=>pp,λi o hi=>AF,λs F h=>.inr h⟩
 |o::l,j,acc,gY,⟨d,hd,a4,F,r,h⟩=>by
  obtain⟨c0,p,n⟩:=yQ.all h;refine⟨λs=>if s=j then F else c0 s,λi o' hi=>?_,λs G m=>?_⟩
  .cases i with
   |zero=>simp at hi;subst hi;refine⟨d,hd,a4,?_⟩;have e:(λs=>if j<=s/\s<j+0 then some (if s=j then F else c0 s)else acc s)=acc:=funext λs=>vbp AX;grind
   |succ i=>
    have a:j+1+i=j+(i+1):=AX;obtain⟨q,c,b,k3⟩:=p i o' AF;refine⟨q,a▸c,b,?_⟩;have e:(λs=>if j<=s/\s<j+(i+1)then some (if s=j then F else c0 s)else acc s)=(λs=>if j+1<=s/\s<j+1+i then some (c0 s)else up acc j F s):=funext λs=>by grind[up]
    grind
  .rcases n s G m with⟨i,o',c,b,k3,g⟩|k
   .have a:j+1+i=j+(i+1):=by omega
    exact .inl ⟨i+1,o',AF,a▸b,AF,a▸g⟩
   .split at k
    .unfold up at k;split at k
     .rename_i hk e;cases k;exact .inl ⟨0,o,U,AF,Ab,hk⟩
     grind
    .exact .inr k
end
def pq(n i:Nat):Array Bool:=((List.range n).map λj=>decide (j<i)).toArray
def apJ{n i j:Nat}(h:j<n):(pq n i).getD j false=decide (j<i):=by simp[pq,Array.getD,h]
theorem Xo{n i:Nat}(h:i<n):(pq n i).setIfInBounds i true=pq n (i+1):=by
 apply vcf;intro j;rw[vak];by_cases e:i=j
 .grind[pq]
 .rw[vbp e];grind[pq]
theorem apK{n:Nat}:∀{m:Nat},m<=n->(pq n m).toList.count false=n-m:=by
 have key:∀k m,m<=n->n-m=k->(pq n m).toList.count false=k:=by intro k;induction k with|zero=>grind[List.count_eq_zero,pq]|succ k a=>intro m d c;have b:=count_set (au:=pq n m) (i:=m) (by simp[pq,Array.getD];omega);grind[Xo]
 grind
structure GB(N:Nat)(ops:du)(K:bJ)(c0:Nat->a5)(au:uat)(a:Act)(w:aL):Prop where
 len:au.size=ops.size
 base:af N K a w
 val:∀(j:Nat) o d,ops[j]?=some o->o.dst=some d->au.getD j false=true->∃v,a.tmps[d]?=some v/\(c0 j).R w v
structure JY(N m:Nat)(ops:du)(K:bJ)(c0:Nat->a5)(D:List Deferred)(dm:aL)(au:uat)(a:Act)(w:aL):Prop extends GB N ops K c0 au a w where
 defers:a.defers=D
 Ts:cC dm w
 most:∀j,au.getD j false=true->j<m
 down:∀(j:Nat) o,ops[j]?=some o->au.getD j false=true->∀e∈o.after,Region.binds .any e=true->au.getD e.on false=true
def GB.env{N:Nat}{ops:du}{K:bJ}{c0:Nat->a5}{au:uat}{a:Act}{w:aL}(h:GB N ops K c0 au a w){o:Oper}{acc:bJ}(g:∀s F,acc s=some F->F=c0 s)(f:∀e∈o.after,Region.binds .any e=true->au.getD e.on false=true):af N (vE K ops acc o) a w:=by
 refine⟨h.base.size,λs F e=>?_⟩;unfold vE at e;split at e
 .rename_i x c;have b:=List.find?_some c;have i:=List.mem_of_find?_eq_some c;simp at b;have hF:=g _ _ e;subst hF;cases d:ops[x.on]? with|none=>grind|some o'=>simp[d]at b;exact h.val _ o' s d b.2 (f x AF b.1)
 .exact h.base.has s F e
theorem GB.put{N:Nat}{ops:du}{K:bJ}{c0:Nat->a5}{au:uat}{a:Act}{w w1:aL}(h:GB N ops K c0 au a w){j:Nat}{o:Oper}{d:Nat}(q:ops[j]?=some o)(hd:o.dst=some d)(a4:d<N)(hK:K d=none)(p:∀i o',ops[i]?=some o'->o'.dst=some d->au.getD i false=true->i=j)(l:cC w w1){v:Value}(hv:(c0 j).R w1 v):GB N ops K c0 (au.setIfInBounds j true) (a.put (some d) v) w1:=by
 have r:j<au.size:=Fi;refine⟨El,⟨by rw[fo];exact h.base.size,λs F e=>?_⟩,λi o' m f c n=>?_⟩
 .obtain⟨x,k,g⟩:=h.base.has s F e;have b:d≠s:=λx=>AF;exact⟨x,(dF b).trans k,F.h8 _ _ _ l g⟩
 .by_cases e:i=j
  .subst e;rw[q]at f;cases f;rw[hd]at c;cases c;exact⟨v,jz (by rw[h.base.size];exact a4),hv⟩
  .have hi:=((si r).1 n).resolve_left e;obtain⟨x,k,g⟩:=h.val i o' m f c hi;have b:d≠m:=λx=>by subst x;exact e (p i o' f c hi)
   exact⟨x,(dF b).trans k,(c0 i).h8 _ _ _ l g⟩
def Bd(ops:du)(j i:Nat):Bool:=match ops[j]? with|some o=>o.after.any λe=>Region.binds .any e&&e.on==i|none=>false
def qg(K:bJ)(l:uba):Bool:=l.all λo=>match o.dst with|some d=>(K d).isNone|none=>true
def NM(ops:du)(m:Nat):Bool:=
 decide (m<=ops.size)&&
 ((List.range m).all λi=>(List.range m).all λj=>i==j||(ops[i]?).bind (·.dst) != (ops[j]?).bind (·.dst))&&
 ((List.range m).all λi=>m==ops.size||(List.range (m+1)).any λj=>decide (i<j)&&Bd ops j i)&&
 ((List.range ops.size).all λj=>decide (j<=m)||(List.range ops.size).any λe=>decide (m<=e)&&Bd ops j e)&&
 ((List.range ops.size).all λj=>match ops[j]? with|some o=>o.after.all λe=> !Region.binds .any e||decide (e.on<j)|none=>true)&&
 ((List.range (ops.size+1)).all λj=>decide (j<m)||Region.ready .any ops (pq ops.size j)==if j<ops.size then [j]else [])
section
variable{ops:du}{m:Nat}
structure Shape(ops:du)(m:Nat):Prop where
 le:m<=ops.size
 one:∀(i j:Nat) o o' d,i<m->j<m->ops[i]?=some o->ops[j]?=some o'->o.dst=some d->o'.dst=some d->i=j
 apL:m<ops.size->∀i,i<m->∃j,i<j/\j<=m/\Bd ops j i=true
 far:∀j,j<ops.size->m<j->∃e,m<=e/\Bd ops j e=true
 yR:(List.range ops.size).all (λj=>match ops[j]? with|some o=>o.after.all λe=> !Region.binds .any e||decide (e.on<j)|none=>true)=true
 next:∀j,m<=j->j<=ops.size->Region.ready .any ops (pq ops.size j)=if j<ops.size then [j]else []
theorem Shape.of(h:NM ops m=true):Shape ops m:=by
 unfold NM at h;simp only[vaf,List.all_eq_true,List.mem_range,Bool.or_eq_true,decide_eq_true_eq,beq_iff_eq,bne_iff_ne,List.any_eq_true]at h;obtain⟨⟨⟨⟨⟨c,k⟩,g⟩,f⟩,q⟩,p⟩:=h;refine⟨c,λi j o o' d hi b e n hd l=>?_,λa i hi=>?_,λj b a=>?_,?_,λj a b=>?_⟩
 .grind
 .grind
 .grind
 .grind
 grind
def Tu{j i:Nat}(h:Bd ops j i=true):∃o,ops[j]?=some o/\∃e∈o.after,Region.binds .any e=true/\e.on=i:=by grind[Bd]
variable{P:cf}{N:Nat}{K K':bJ}{c0:Nat->a5}{D:List Deferred}{dm:aL}{au:uat}{a:Act}{w w1:aL}{Q:uah}
theorem JY.put(h:JY N m ops K c0 D dm au a w)(hK:qg K (ops.toList.take m)=true)(hS:Shape ops m){j:Nat}{o:Oper}{d:Nat}(g:j<m)(k:ops[j]?=some o)(hd:o.dst=some d)(a4:d<N)(s:∀e∈o.after,Region.binds .any e=true->au.getD e.on false=true)(l:cC w w1){v:Value}(hv:(c0 j).R w1 v):JY N m ops K c0 D dm (au.setIfInBounds j true) (a.put (some d) v) w1:=by
 have c:j<au.size:=Fi;refine⟨h.toGB.put k hd a4 (by cases r:K d with|none=>rfl|some F=>grind[qg,List.mem_take_iff_getElem]) (λi o' f p b=>hS.one i j o' o _ (h.most i b) g f k p hd) l hv,Ge,h.Ts.trans (l.mono h.Ts.size),λi hi=>?_,λi o' f b e n q=>?_⟩
 .rcases(si c).1 hi with rfl|hi
  .grind
  .exact h.most i hi
 .refine(si c).2 (.inr ?_);rcases(si c).1 b with rfl|hi
  .grind
  .exact h.down i o' f hi e n q
theorem Xg(hS:Shape ops m):∀(k j fuel:Nat)(a:Act)(w:aL),m<=j->j+k=ops.size->k<=fuel->wpOps P ops Q (List.range' j k) a w->wpAny P .any ops Q fuel (pq ops.size j) a w
 |0,j,fuel,a,w,c,d,_,h=>by have b:=hS.next j c AX;rw[vbp AX]at b;cases fuel with|zero=>exact⟨b,h⟩|succ fuel=>exact⟨λ_=>h,λi hi=>AF⟩
 |k+1,j,fuel,a,w,c,d,l,h=>by have b:=hS.next j c AX;rw[vbv AX]at b;obtain⟨fuel,rfl⟩:∃f,fuel=f+1:=⟨fuel-1,AX⟩;refine⟨λe=>(by rw[b]at e;cases e),λi hi=>?_⟩;rw[b]at hi;simp at hi;subst hi;rw[List.range'_succ,wpOps_cons]at h;rw[Xo AX];exact wpOp_mono (λa w g=>Xg hS k (i+1) fuel a w AX AX AX g) h
def W5{id:Nat}{l:Act}(h:Bb P N ops K (ops.toList.take m) 0 (λ_=>none) K K')(hk:af N K l dm)(hK:qg K (ops.toList.take m)=true)(O:P.follows .mixedOrders=true)(S:NM ops m=true)(k:∀a' w',af N K' a' w'->a'.defers=l.defers->cC dm w'->wpOps P ops Q (List.range' m (ops.size-m)) a' w'):(Code.region id ops true).wp P Q l dm:=by
 have hS:=Shape.of S;obtain⟨c0,t,r⟩:=yQ.all h;refine wp_region_any O ?_;have dN:∀fuel(au:uat) a w,au.toList.count false<=fuel->JY N m ops K c0 l.defers dm au a w->(∀j,j<m->au.getD j false=true)->wpAny P .any ops Q fuel au a w:=λfuel au a w U h y=>by
  have e:au=pq ops.size m:=by
   apply Array.ext (by rw[h.len];simp[pq]);intro j t r;have X:(pq ops.size m).getD j false=decide (j<m):=apJ (by rw[<-h.len];exact t);have W:au.getD j false=decide (j<m):=by
    by_cases c:j<m
    .grind
    .cases q:au.getD j false with|false=>grind|true=>exact absurd (h.most j q) c
   simp_all
  subst e;refine Xg hS (ops.size-m) m fuel a w Jb (by have:=hS.le;omega) (by grind[apK]) (k a w ⟨h.base.size,λs F e=>?_⟩ h.defers h.Ts);rcases r s F e with⟨i,o,T,J,rfl,-⟩|k
  .rw[vbr];have k3:ops[i]?=some o/\i<m:=by grind
   exact h.val i o s k3.1 J (y i k3.2)
  .exact h.base.has s F k
 have key:∀(fuel:Nat)(au:uat)(a:Act)(w:aL),au.toList.count false<=fuel->JY N m ops K c0 l.defers dm au a w->wpAny P .any ops Q fuel au a w:=by
  intro fuel;induction fuel with
  |zero=>
   intro au a w E h;refine dN 0 au a w E h λj c=>?_;have:¬au.getD j true=false:=λe=>by grind[count_set]
   have:j<au.size:=by rw[h.len];have:=hS.le;omega
   grind
  |succ fuel L=>
   intro au a w E h;by_cases y:∀j,j<m->au.getD j false=true
   .grind
   have step:∀i,i∈Region.ready .any ops au->i<m:=λi hi=>by
    obtain⟨g1,o,g,u⟩:=mem_ready.1 hi;apply vaw;intro H;have p:i<ops.size:=(vam.1 g).1;rcases vcx m i with n|n
    .obtain⟨e,V,R⟩:=hS.far i p n;obtain⟨o',z,x,b,f,rfl⟩:=Tu R;rw[g]at z;cases z;have:=h.most _ (u x b f);omega
    .obtain rfl:i=m:=by omega
     refine y λj c=>?_;have key:∀d j,i-j<=d->j<i->au.getD j false=true:=by
      intro d;induction d with
      |zero=>grind
      |succ d C=>
       intro j t r;obtain⟨A,Z,Y,I⟩:=hS.apL p j r;obtain⟨o',z,x,b,f,rfl⟩:=Tu I;rcases vcx A i with D|D
       .exact h.down A o' z (C A AX D) x b f
       grind
     exact key _ j Jb c
   have B:Region.ready .any ops au≠[]:=λM=>y λj c=>Tl hS.yR h.len M j (by have:=hS.le;omega);refine⟨λe=>absurd e B,λi hi=>?_⟩;have H:=step i hi;obtain⟨g1,o,g,u⟩:=mem_ready.1 hi;obtain⟨d,hd,a4,b⟩:=t i o AF;rw[vbr]at b;refine apI (b.step (h.env (λs F e=>?_) u) g hd) ?_
   .grind
   .rintro a1 w1 ⟨⟨v,rfl,hv⟩,f⟩;exact L _ _ _ (by grind[count_set]) (h.put hK hS H g hd a4 u f hv)
 have iH:cC dm {dm with drawn:=dm.drawn+1}:=⟨rfl,rfl,rfl,vac _,λ_ _=>rfl⟩;refine key _ _ _ _ Ab ⟨⟨Ab,hk.h8 iH,λj o d _ _ q=>?_⟩,rfl,iH,λj q=>?_,λj o _ q=>?_⟩;all_goals grind[Tq]
def yS{id:Nat}{ks ks':fC}{Q:uaf}(hk:af N K a w)(h:Bb P N ops K (ops.toList.take m) 0 (λ_=>none) K K')(hK:qg K (ops.toList.take m)=true)(b:P.follows .mixedOrders=true)(c:NM ops m=true)(k:∀a' w',af N K' a' w'->a'.defers=a.defers->cC w w'->wpOps P ops (kj (bO P ks ks' Q)) (List.range' m (ops.size-m)) a' w'):bO P (.code (.region id ops true)::ks) ks' Q a w:=A6 (W5 h hk hK b c k)
end
end bc
namespace qj
open Conc ConcM az bo ag ix gi iS
section
section
variable{Z:e_}{Q:cf}{Stop:Bool->Z.Lo->aX->Prop}{m:Bool}{b:Frame}{ops:du}{l:Z.Lo}{M:c7}{w0:aL}{bs:uao}
def jV(Z:e_)(l:Z.Lo)(M:c7)(w0:aL)(bs:uao):cy Z:=⟨l,cj M bs,λw _=>af Z M w0 bs w⟩
def N4:sW (jV Z l M w0 bs):=λ_ _ _ _ _ h _ a=>af.on h (dP.rw a)
def Df(x:ubq)(M:c7)(w0:aL)(bs:uao):Prop:=x∈bs\/(M x.1/\w0.heap[x.1]?=some x.2)
theorem Df.at{x:ubq}(h:Df x M w0 bs){w:aL}(hk:af Z M w0 bs w):cj M bs x.1/\w.heap[x.1]?=some x.2:=by
 rcases h with h|⟨a,b⟩
 .exact⟨.inr AF,hk.cW x h⟩
 .exact⟨.inl a,(hk.rw.heap x.1 (.inr a)).trans b⟩
def Df.cons{x y:ubq}(h:Df x M w0 bs):Df x M w0 (y::bs):=h.imp AF id
def N5(Z:e_)(l:Z.Lo)(xs:uao)(σ:cy Z):Prop:=∃M w0 bs,(∀x∈xs,Df x M w0 bs)/\σ=jV Z l M w0 bs
def N6{xs:uao}:∀σ,N5 Z l xs σ->sW σ:=by rintro _ ⟨M,w0,bs,_,rfl⟩;exact N4
def aq6{xs:uao}:∀σ,N5 Z l xs σ->∀w γ,σ.S w γ->σ.S {w with drawn:=w.drawn+1} γ:=by rintro _ ⟨M,w0,bs,_,rfl⟩ w γ h;exact⟨h.rw.trans ⟨λ_ _=>U,vac _,.refl _,U,U⟩,h.cW,h.lt,h.eV,h.sX,h.iI,h.vd⟩
def Vf(n:Z.past l=false){xs:uao}{z:ubq}(j:z∈xs){o:Oper}{v:Value}{a:Act}(c:Region.wanted o (yielded ops a.tmps)=true)(h:∀w,w.heap[z.1]?=some z.2->(execOp a.eval o).run Q w=.ok (.value v) w/\∀e∈listed Q b.fn a o w,∃off,e=⟨.cell ⟨z.1,off,none⟩,false,false⟩):nV Q b ops (N5 Z l xs) o v a:=by
 refine .inl ⟨c,?_⟩;rintro _ ⟨M,w0,bs,k,rfl⟩ w γ w' t g hS p m;have il:=N4 (Z:=Z) (l:=l) w γ w' t g hS p m;obtain⟨s,q⟩:=(k z j).at il;obtain⟨r,i⟩:=h w' q;refine⟨r,AE _ _ λe f d=>?_,?_⟩
 .obtain⟨off,rfl⟩:=i e AF;exact .inl ⟨U,.inr (.inl s),n⟩
 .rintro⟨e,f,c⟩;obtain⟨off,rfl⟩:=i e f;rcases c with c|c|⟨_,c⟩|⟨_,c⟩|⟨c,_⟩<;>cases c
def TK(d:∀b,Z.K b->¬Z.hX b){o:Oper}{ob:Obj}{a:Act}{K:cy Z->Act->Prop}(h:∀w,(execOp a.eval o).run Q w=.ok (.value (.P w.heap.size 0)) (w.alloc ob)/\listed Q b.fn a o w=#[])(k:∀n,K (jV Z l M w0 ((n,ob)::bs)) (a.put o.dst (.P n 0))):CD Q b o (jV Z l M w0 bs) a K:=by
 intro w γ w' m g hS f e;have il:af Z M w0 bs w':=N4 (Z:=Z) (l:=l) w γ w' m g hS f e;obtain⟨j,i⟩:=h w';refine⟨_,_,jV Z l M w0 ((w'.heap.size,ob)::bs),.inl j,⟨?_,?_,.inl ⟨U,il.alloc d ob,λb c _=>CG c,?_,?_⟩⟩,k _⟩
 .show cj M ((w'.heap.size,ob)::bs)=grown (cj M bs) w' (w'.alloc ob);rw[R5];exact cj.cons.symm
 .exact⟨λb c _ _=>CG c,Bc,.refl _,U,U⟩
 .rw[i];exact trivial
 grind
def TL(r:Z.past l=false){pre post:uao}{b0:Nat}{bf new:df}{t:uaa}{o:Oper}{a:Act}{K:cy Z->Act->Prop}(h:∀w,w.heap[b0]?=some (.cells bf t)->(execOp a.eval o).run Q w=.ok .skip (w.setRow b0 new)/\∀e∈listed Q b.fn a o w,∃off,e.loc=.cell ⟨b0,off,none⟩/\e.sync=false)(k:K (jV Z l M w0 (pre++(b0,.cells new t)::post)) (a.put o.dst undef)):CD Q b o (jV Z l M w0 (pre++(b0,.cells bf t)::post)) a K:=by
 intro w γ w' u g hS s q;have il:af Z M w0 (pre++(b0,.cells bf t)::post) w':=N4 (Z:=Z) (l:=l) w γ w' u g hS s q;have f:cj M (pre++(b0,Obj.cells bf t)::post) b0:=.inr Ab;have y:cj M (pre++(b0,Obj.cells new t)::post)=cj M (pre++(b0,Obj.cells bf t)::post):=by grind[cj]
 obtain⟨x,n⟩:=h w' (il.cW (b0,.cells bf t) Ab);have hg:grown (cj M (pre++(b0,Obj.cells bf t)::post)) w' (w'.setRow b0 new)=cj M (pre++(b0,Obj.cells bf t)::post):=kC (setRow_size _ _ _);refine⟨_,_,jV Z l M w0 (pre++(b0,.cells new t)::post),AF,⟨?_,?_,.inl ⟨U,il.row,λb v i=>AR _ _ ?_,?_,?_⟩⟩,k⟩
 .show cj M (pre++(b0,.cells new t)::post)=grown (cj M (pre++(b0,Obj.cells bf t)::post)) w' (w'.setRow b0 new);grind
 .exact⟨λk _ hk _=>AR _ _ λe=>hk (e▸f),vbk (setRow_size _ _ _).symm,.refl _,U,U⟩
 .rintro rfl;exact il.eV b (.inr f) i
 .refine AE _ _ λe m d=>?_;obtain⟨off,j,p⟩:=n e AF;unfold tO;rw[j];refine .inl ⟨p,.inr (.inl ?_),r⟩;show grown (cj M (pre++(b0,Obj.cells bf t)::post)) w' (w'.setRow b0 new) b0;simp_all
 .rintro⟨e,m,c⟩;obtain⟨off,j,p⟩:=n e m;rcases c with c|c|⟨_,c⟩|⟨_,c⟩|⟨_,k,hk,i⟩
  .grind
  .grind
  .grind
  .grind
  .rw[j]at hk;cases hk;exact il.eV b0 (.inr f) i
end
end
open RowKit Conc.Lib ConcR.Gen bR
def Rf:prog.underlying 84=some (.slice 64):=by simp
theorem asS:(prog.info? 64).map (λi=>(i.zero,i.size,i.bytes))=some (some (.N),1,24):=by kernel_rfl
def Q3{a:Act}{b:Frame}{o:Oper}{x y:uap}{N:Nat}(a4:N<=2000000)(c:o.op=.makeSlice 84 x y)(k:a.eval x=.I (N:Int))(j:a.eval y=.I (N:Int))(w:aL):
 (execOp a.eval o).run prog w=.ok (.value (.S w.heap.size 0 N N)) (w.alloc (.cells (madeCells #[.N] N) 64))/\listed prog b.fn a o w=#[]:=by
 obtain⟨i,hi,e⟩:=vaj.1 asS;simp at e;obtain⟨g,l,m⟩:=e;have f:(i.bytes:Int)*(N:Int)<=281474976710656:=AF;have d:=run_makeSlice (P:=prog) w 84 64 i (.N) Rf hi g .i64 .i64 (N:Int) (N:Int) AX (Int.le_refl _) AF f AX;have h:=events_make (P:=prog) w 84 64 i (.N) Rf hi g .i64 .i64 (N:Int) (N:Int) AX (Int.le_refl _) f AX AF #[];simp[l]at d;unfold listed execOp;simp only[c,k,j];constructor
 .simp[d];rfl
 .simp[h,vcz]
section
variable{ST:Bool->fi.Lo->aX->Prop}
def Uk{S am N:Nat}(x:0<am)(a4:N=(S+am-1) / am)(hS:S<=1000000)(y:am<=1000000){M:c7}{w0:aL}{bs:uao}:
 jw prog ST true 47 #[.I (S:Int),.I (am:Int)] (jV fi () M w0 bs) (λu p=>∃st cP,u=.P st 0/\p=jV fi () M w0 ((st,.cells #[.int .i32 0,.int .u32 0,.I (S:Int),.I (am:Int),.I 0,.I 0,.S cP 0 N N,.N] 169)::(cP,.cells (madeCells #[.N] N) 64)::bs)):=by
 intro a2 aF aC aJ aO aH csZ hK w γ hF;have l:=uv.nb;obtain⟨i,A,o⟩:∃i:Nat,IntKind.wrap .i64 ((S:Int)+(am:Int))=(i:Int)/\rk (i=S+am):=⟨S+am,E5,U⟩;obtain⟨g,z,t⟩:∃g:Nat,IntKind.wrap .i64 ((i:Int)-1)=(g:Int)/\rk (g=S+am-1):=⟨S+am-1,by grind[IntKind.wrap_i64],U⟩;have hq:Int.tdiv (g:Int) (am:Int)=(N:Int):=by grind[rk.out]
 have n:N<=2000000:=by rw[a4];exact vad (Nat.div_le_self _ _) AX
 replace a4:rk (N=(S+am-1) / am):=a4;have s:IntKind.wrap .i64 (N:Int)=(N:Int):=E5;have r:¬am=0:=AX;rw[vdv _ func47 U];refine va (γ:=()) uv (λ_ _ h=>h) 200 _ _ _ trivial ?_;unfold jV at hF⊢;walk_nrmf f47
 repeat w_go af.on
 refine fN U hF λd c m f a q k j hF=>?_;refine tX AF l U hF (vay U U Ap (Q3 (b:=base 47) n U U U a).1) U (Q3 n U U U a).2 (λe=>?_);clear hF;have hF:=e;clear e j k f c;generalize a.heap.size=cP at hF⊢;generalize a.alloc (.cells (madeCells #[.N] N) 64)=w3 at hF⊢;refine va (γ:=()) uv (λ_ _ h=>h) 200 _ _ _ trivial ?_;walk_nrm
 repeat w_go af.on
 refine fN U hF λd c m f a q k j hF=>?_;refine tX AF l U hF (vay (v:=.P a.heap.size 0) (w':=a.alloc (.cells #[.int .i32 0,.int .u32 0,.I (S:Int),.I (am:Int),.I 0,.I 0,.S cP 0 N N,.N] 169)) U U Ap Ar) U BB (λe=>?_);clear hF;have hF:=e;clear e j k f c;generalize a.heap.size=st at hF⊢;generalize a.alloc (.cells #[.int .i32 0,.int .u32 0,.I (S:Int),.I (am:Int),.I 0,.I 0,.S cP 0 N N,.N] 169)=w3 at hF⊢;refine va (γ:=()) uv (λ_ _ h=>h) 200 _ _ _ trivial ?_;walk_nrm
 repeat w_go af.on
 u_in af.on hF
 refine goes_leave1 U U func47 U ⟨CM,?_⟩;refine vah (λd c=>⟨U,λm f=>?_⟩);replace hF:=hF.on c;simp_all[jV]
end
theorem Um:(f47.name== "runtime.NumGoroutine")=false:=by kernel_rfl
section
variable{ST:Bool->fi.Lo->aX->Prop}
variable{a2:Frame}{aF:Act}{aC:du}{aJ:Nat}{aO:e8}{aH:fC}{csZ:dZ}
def asT{S am N W:Nat}(y:0<am)(a4:N=(S+am-1) / am)(hS:S<=1000000)(A:am<=1000000){jt:uaa}{c F:Value}{c0:uaj}{M:c7}{w0:aL}(hinv:∀w,(callMethod (.iface jt c) "Size" #[]).run prog w=.ok (.enter c0 (#[F]++#[])) w/\(callMethod (.iface jt c) "Size" #[]).events prog w #[]=#[])(xq:∀bs,jw prog ST true c0 (#[F]++#[]) (jV fi () M w0 bs) (λu bx=>u=.I (S:Int)/\bx=jV fi () M w0 bs))(D:∀st cP j b2 f wg bs w'(J dR eX L K fS fT fU fV fW fX Q Y X f2 I V U T R:Value),af fi M w0 bs w'->(∀x∈[(wg,Obj.cells #[.int .u64 0,.int .u32 0] 133),(j,Obj.cells #[.P st 0] 121),(st,Obj.cells #[.int .i32 0,.int .u32 0,.I (S:Int),.I (am:Int),.I 0,.I 0,.S cP 0 N N,.N] 169),(cP,Obj.cells (madeCells #[.N] N) 64),(f,Obj.cells #[.iface jt c] 120),(b2,Obj.cells #[.I (W:Int),.I (am:Int)] 60)],x∈bs)->(∀x∈bs,x∈[(wg,Obj.cells #[.int .u64 0,.int .u32 0] 133),(j,Obj.cells #[.P st 0] 121),(st,Obj.cells #[.int .i32 0,.int .u32 0,.I (S:Int),.I (am:Int),.I 0,.I 0,.S cP 0 N N,.N] 169),(cP,Obj.cells (madeCells #[.N] N) 64),(f,Obj.cells #[.iface jt c] 120),(b2,Obj.cells #[.I (W:Int),.I (am:Int)] 60)])->bg fi prog ST true () () ⟨Conc.G ((base 35).at ⟨#[J,dR,eX,.P f 0,L,K,.P j 0,.P wg 0,fS,fT,fU,fV,fW,fX,.I (W:Int),.I (0:Int),Q,Y,X,f2,I,V,U,T,R],[]⟩ [.code ((bR.dG (f35.body.getD .skip)).getD .skip),.inLoop ((bR.dG (f35.body.getD .skip)).getD .skip),.inBlock 0,.code ((bR.er 8 (f35.body.getD .skip)).getD .skip)]) (a2.at aF (.inRegion aC (aJ::aO)::aH)::csZ),w',cj M bs⟩)(w:aL)(hk:af fi M w0 [] w):
 bg fi prog ST true () () ⟨Conc.G (Frame.enter prog 35 #[.agg #[.I (W:Int),.I (am:Int)],.iface jt c] .normal) (a2.at aF (.inRegion aC (aJ::aO)::aH)::csZ),w,cj M []⟩:=by
 have hF:=hk;have r:=uv.nb;have H:prog.follows .mixedOrders=true:=Ao;rw[vdv _ func35 rfl];refine va (γ:=()) uv AF 200 _ _ _ trivial ?_;walk_nrmf f35
 repeat w_go af.on
 refine fN rfl hF λd b s l a B q o hF=>?_;refine tX AF r rfl hF (vay (v:=.P a.heap.size 0) (w':=a.alloc (Obj.cells #[.I (W:Int),.I (am:Int)] 60)) rfl rfl Ap Ar) rfl BB (λk=>?_);clear hF;have hF:=k;clear k o q l b;generalize a.heap.size=b2 at hF⊢;generalize a.alloc (Obj.cells #[.I (W:Int),.I (am:Int)] 60)=w3 at hF⊢;refine va (γ:=()) uv AF 200 _ _ _ trivial ?_;walk_nrm
 repeat w_go af.on
 refine fN rfl hF λd b s l a B q o hF=>?_;refine tX AF r rfl hF (vay (v:=.P a.heap.size 0) (w':=a.alloc (Obj.cells #[.iface jt c] 120)) rfl rfl Ap Ar) rfl BB (λk=>?_);clear hF;have hF:=k;clear k o q l b;generalize a.heap.size=f at hF⊢;generalize a.alloc (Obj.cells #[.iface jt c] 120)=w3 at hF⊢;refine va (γ:=()) uv AF 200 _ _ _ trivial ?_;walk_nrm
 repeat w_go af.on
 refine vah (λd b=>⟨rfl,λs l=>?_⟩);replace hF:=hF.on b;clear b l;have mL:∀bs:List (Nat×Obj),(f,Obj.cells #[.iface jt c] 120)∈bs->(b2,Obj.cells #[.I (W:Int),.I (am:Int)] 60)∈bs->∀x∈[(b2,Obj.cells #[.I (W:Int),.I (am:Int)] 60),(f,Obj.cells #[.iface jt c] 120)],Df x M w0 bs:=by
  intro bs P O x E;simp at E;rcases E with rfl|rfl
  .exact .inl O
  .exact .inl P
 refine AH (Z:=fi) (C:=N5 fi () [(b2,Obj.cells #[.I (W:Int),.I (am:Int)] 60),(f,Obj.cells #[.iface jt c] 120)]) AF Ap H N6 aq6 (σ:=jV fi () M w0 [(f,Obj.cells #[.iface jt c] 120),(b2,Obj.cells #[.I (W:Int),.I (am:Int)] 60)]) (iy:=rY prog ST true _ _ _ _ []) Kt ⟨_,_,_,AF,rfl⟩ ?_ _ s hF;walk_nrm
 refine iR (i:=0) (v:=.iface jt c) N6 rfl AQ AQ AQ (Vf rfl (z:=(f,Obj.cells #[.iface jt c] 120)) Ab rfl (λw g=>?_)) ⟨_,_,_,AF,rfl⟩ ?_
 .have n:w.cell? (.a f 0)=some (.iface jt c):=by simp[World.cell?,g]
  refine⟨Ar,λe p=>⟨0,?_⟩⟩;have m:=vbs p;simp[go_sem,n]at m;grind
 walk_nrm
 refine ei 2 (.P b2 1) ?_ N6 ⟨_,_,_,AF,rfl⟩;walk_nrm
 refine iR (i:=3) (v:=.I (am:Int)) N6 rfl AQ AQ AQ (Vf rfl (z:=(b2,Obj.cells #[.I (W:Int),.I (am:Int)] 60)) Ab rfl (λw g=>?_)) ⟨_,_,_,AF,rfl⟩ ?_
 .have n:w.cell? (.a b2 1)=some (.I (am:Int)):=by simp[World.cell?,g]
  refine⟨Ar,λe p=>⟨1,?_⟩⟩;have m:=vbs p;simp[go_sem,n]at m;grind
 walk_nrm
 refine R2 (rs:=[1,5]) AQ Ab (λi hi=>?_);simp at hi;rcases hi with rfl|rfl;focus
  refine(yp rfl rfl (yt (λw=>Se (rv:=.iface jt c) (vs:=#[]) rfl rfl CK (hinv w)) (xq _) ?_));rintro u _ ⟨rfl,rfl⟩;refine⟨⟨_,_,_,AF,rfl⟩,?_⟩;walk_nrm
  refine R2 (rs:=[4,5]) AQ Ab (λi hi=>?_);simp at hi;rcases hi with rfl|rfl;focus
   refine(yp rfl rfl (yt (λw=>pf (vs:=#[.I (S:Int),.I (am:Int)]) rfl func47 Um rfl CK w) (Uk y a4 hS A) ?_));rintro u _ ⟨st,cP,rfl,rfl⟩;refine⟨⟨_,_,_,AF,rfl⟩,?_⟩;walk_nrm
   refine qT (i:=5) AQ (yo rfl rfl (TK r (ob:=Obj.cells #[.pointer none] 121) (λw=>⟨Ar,BB⟩) (λj=>⟨⟨_,_,_,AF,rfl⟩,?_⟩)));walk_nrm
   refine qT (i:=6) AQ (yo rfl rfl (TL rfl (pre:=[]) (post:=[(st,Obj.cells #[.int .i32 0,.int .u32 0,.I (S:Int),.I (am:Int),.I 0,.I 0,.S cP 0 N N,.N] 169),(cP,Obj.cells (madeCells #[.N] N) 64),(f,Obj.cells #[.iface jt c] 120),(b2,Obj.cells #[.I (W:Int),.I (am:Int)] 60)]) (new:=#[.P st 0]) (λw g=>?_) ⟨⟨_,_,_,AF,rfl⟩,?_⟩))
  rotate_left 2
  focus
   refine(yo rfl rfl (TK r (ob:=Obj.cells #[.pointer none] 121) (λw=>⟨Ar,BB⟩) (λj=>⟨⟨_,_,_,AF,rfl⟩,?_⟩)));walk_nrm
   refine qT (i:=4) AQ (yp rfl rfl (yt (λw=>pf (vs:=#[.I (S:Int),.I (am:Int)]) rfl func47 Um rfl CK w) (Uk y a4 hS A) ?_));rintro u _ ⟨st,cP,rfl,rfl⟩;refine⟨⟨_,_,_,AF,rfl⟩,?_⟩;walk_nrm
   refine qT (i:=6) AQ (yo rfl rfl (TL rfl (pre:=[(st,Obj.cells #[.int .i32 0,.int .u32 0,.I (S:Int),.I (am:Int),.I 0,.I 0,.S cP 0 N N,.N] 169),(cP,Obj.cells (madeCells #[.N] N) 64)]) (post:=[(f,Obj.cells #[.iface jt c] 120),(b2,Obj.cells #[.I (W:Int),.I (am:Int)] 60)]) (new:=#[.P st 0]) (λw g=>?_) ⟨⟨_,_,_,AF,rfl⟩,?_⟩))
 rotate_left 4
 focus
  refine(yo rfl rfl (TK r (ob:=Obj.cells #[.pointer none] 121) (λw=>⟨Ar,BB⟩) (λj=>⟨⟨_,_,_,AF,rfl⟩,?_⟩)));walk_nrm
  refine qT (i:=1) AQ (yp rfl rfl (yt (λw=>Se (rv:=.iface jt c) (vs:=#[]) rfl rfl CK (hinv w)) (xq _) ?_));rintro u _ ⟨rfl,rfl⟩;refine⟨⟨_,_,_,AF,rfl⟩,?_⟩;walk_nrm
  refine qT (i:=4) AQ (yp rfl rfl (yt (λw=>pf (vs:=#[.I (S:Int),.I (am:Int)]) rfl func47 Um rfl CK w) (Uk y a4 hS A) ?_));rintro u _ ⟨st,cP,rfl,rfl⟩;refine⟨⟨_,_,_,AF,rfl⟩,?_⟩;walk_nrm
  refine qT (i:=6) AQ (yo rfl rfl (TL rfl (pre:=[(st,Obj.cells #[.int .i32 0,.int .u32 0,.I (S:Int),.I (am:Int),.I 0,.I 0,.S cP 0 N N,.N] 169),(cP,Obj.cells (madeCells #[.N] N) 64)]) (post:=[(f,Obj.cells #[.iface jt c] 120),(b2,Obj.cells #[.I (W:Int),.I (am:Int)] 60)]) (new:=#[.P st 0]) (λw g=>?_) ⟨⟨_,_,_,AF,rfl⟩,?_⟩))
 all_goals
  first
  |have n:w.cell? (.a j 0)=some (.pointer none):=by simp[World.cell?,g]
   have nx:w.frozen? ⟨j,0,none⟩=false:=by simp[World.frozen?,g]
   have cm:w.setCell ⟨j,0,none⟩ (.P st 0)=w.setRow j #[.P st 0]:=setCell_eq_setRow w j 0 #[.pointer none] 121 (0,0) (.P st 0) g;refine⟨by rw[<-cm];go_simp,λe p=>⟨0,?_⟩⟩;have m:=vbs p;simp[go_sem]at m;rw[Go.events_store _ _ _ _ _ _ rfl,n]at m;grind
  |walk_nrm
   refine yi AQ ?_ _;intro t eF k;replace hF:af fi M w0 _ t:=k;clear k;unfold jV;refine va (γ:=()) uv AF 200 _ _ _ trivial ?_;walk_nrm
   repeat w_go af.on
   refine fN rfl hF λd b s l a B q o hF=>?_;refine tX AF r rfl hF (vay (v:=.P a.heap.size 0) (w':=a.alloc (Obj.cells #[.int .u64 0,.int .u32 0] 133)) rfl rfl Ap Ar) rfl BB (λk=>?_);clear hF;have hF:=k;clear k o q l b;generalize a.heap.size=wg at hF⊢;generalize a.alloc (Obj.cells #[.int .u64 0,.int .u32 0] 133)=w3 at hF⊢;refine va (γ:=()) uv AF 200 _ _ _ trivial ?_;walk_nrm
   repeat w_go af.on
   refine fN rfl hF λd b s l a B q o hF=>?_;have g:=hF.cW (b2,Obj.cells #[.I (W:Int),.I (am:Int)] 60) Ab;have n:a.cell? (.a b2 0)=some (.I (W:Int)):=by simp[World.cell?,g]
   refine sY AF rfl AF (vay (v:=.I (W:Int)) rfl rfl Ap Ar) rfl (λe p=>?_) ?_
   .have m:=vbs p;simp[go_sem,n]at m;subst m;exact⟨rfl,.inr (.inr Ab)⟩
   clear g n o q l b;refine va (γ:=()) uv AF 200 _ _ _ trivial ?_;walk_nrm
   iterate 4 w_go af.on
   refine vah (λd b=>⟨rfl,λs l=>?_⟩);replace hF:=hF.on b;simp only[f35,vae,bR.dG,bR.er,Nat.reduceBEq,vai,↓reduceIte]at D;exact D st cP j b2 f wg _ d (.agg #[.I (W:Int),.I (am:Int)]) (.iface jt c) (.P b2 0) _ _ (.iface jt c) (.I (S:Int)) (.P b2 1) (.I (am:Int)) (.P st 0) (.P b2 0) undef undef undef undef undef undef undef undef undef hF Ab Ab
end
end qj
namespace iS
open Conc RowKit Conc.Lib ConcR.Gen ConcM az bo ag ft ix gi
theorem Q2:(f81.name== "runtime.NumGoroutine")=false:=by kernel_rfl
theorem atr:(f82.name== "runtime.NumGoroutine")=false:=by kernel_rfl
section
variable{c:dy}{Stop:Bool->ag.Lo At->aX->Prop}{fr aZ:uas}{gl:Value}{cV:uag}
theorem oI.step(d:∀T v M w M' w',cV T v M w->(∀b,c.K b\/M b->w'.heap[b]?=w.heap[b]?)->(∀b,M b->M' b)->cV T v M' w'){q:uac}{M M':c7}{w w':aL}(h:oI c cV q M w)(a:gj (al (av c)) M w M' w'):oI c cV q M' w':=λx e f=>d _ _ _ _ _ _ (h x e f) a.rw.heap a.sub
section
variable{a2:Frame}{aF:Act}{aC:du}{aJ:Nat}{aO:e8}{aH:fC}{csZ:dZ}
def att{f:Nat}{M:c7}{w0 b4:aL}(hI:nZ c b4 w0)(S:∀T v M w M' w',cV T v M w->(∀b,c.K b\/M b->w'.heap[b]?=w.heap[b]?)->(∀b,M b->M' b)->cV T v M' w')(Oq:∀q k w1,af (al (av c)) k w1 [] w1->jw prog Stop false 81 #[.P c.st 0] (ep c ⟨.idle,false,0,f+15,.work .free q⟩ k w1) (λu U=>(u=.tuple #[.agg #[.I 0,.I 0,.I 0],.F]/\U=wR c ⟨.idle,false,0,f+1,.work .free q⟩ k w1)\/∃T,T<c.N/\u=.tuple #[.agg #[.I (T:Int),.I (fr T:Int),.I (aZ T:Int)],.T]/\U=ep c ⟨.idle,false,0,f+31,.work (.has T) q⟩ k w1))(Us:∀q T k w1,T<c.N->nZ c b4 w1->jw prog Stop false 82 #[.P c.st 0,gl,.agg #[.I (T:Int),.I (fr T:Int),.I (aZ T:Int)]] (ep c ⟨.idle,false,0,f+31,.work (.has T) q⟩ k w1) (λu U=>u=.tuple #[]/\∃v o C,gj (al (av c)) k w1 o C/\(c.b3 T=false->cV T v o C)/\U=ep c ⟨.idle,false,0,f+15,.work .free ((T,v)::q)⟩ o C))(hK:∀q M' w1,gj (al (av c)) M w0 M' w1->oI c cV q M' w1->∀w γ,af (al (av c)) M' w1 [] w->oG c.N γ.aj->bg (al (av c)) prog Stop false ⟨.idle,false,0,f+1,.work .free q⟩ γ ⟨Conc.G (a2.at (aF.put ((aC[aJ]?).bind (·.dst)) (.tuple #[])) (.inRegion aC aO::aH)) csZ,w,M'⟩)(n:Nat):
 ∀(q:uac)(k:c7)(w1:aL)(bk T:Nat)(eX jY En W fS fT fU fV fW fX Y X gp fY fZ f2 Z f_:Value),c.N<=q.length+n->T<c.N->k bk->w1.heap[bk]?=some (Obj.cells #[.I (T:Int),.I (fr T:Int),.I (aZ T:Int)] 184)->gj (al (av c)) M w0 k w1->oI c cV q k w1->∀w γ,af (al (av c)) k w1 [] w->bg (al (av c)) prog Stop false ⟨.idle,false,0,f+31,.work (.has T) q⟩ γ ⟨Conc.G ((base 51).at ⟨#[.P c.st 0,gl,eX,jY,.P bk 0,.T,En,W,fS,fT,fU,fV,fW,fX,Y,X,gp,fY,fZ,f2,Z,f_],[]⟩ [.code ((bR.dG (f51.body.getD .skip)).getD .skip),.inLoop ((bR.dG (f51.body.getD .skip)).getD .skip),.inBlock 0]) (a2.at aF (.inRegion aC (aJ::aO)::aH)::csZ),w,k⟩:=by
 have kg:=(dk (bD c)).nb;induction n with|zero=>intro q k w1 bk T eX jY En W fS fT fU fV fW fX Y X gp fY fZ f2 Z f_ hn hT E H K I w γ hF;refine bg.seen (dk (bD c)) rfl λγ _ lN=>?_;have:=ane lN rfl;omega|succ n ih=>
 intro q k w1 bk T eX jY En W fS fT fU fV fW fX Y X gp fY fZ f2 Z f_ hn hT E H K I w γ hF;rw[<-fO (M:=k)];refine a9 (bD c) ?_;simp only[f51,vae,bR.dG]at ih⊢;repeat w_go af.on
 refine fN rfl hF λg d z j a F m p hF=>?_;have i:a.heap[bk]?=some (Obj.cells #[.I (T:Int),.I (fr T:Int),.I (aZ T:Int)] 184):=(hF.rw.heap bk (.inr E)).trans H;refine sY AF rfl (λb J=>hF.eV b (.inr J)) (vay rfl rfl Ap (Bm i rfl rfl).1) rfl (λe A=>?_) ?_
 .have t:=vbs A;rw[(Bm i rfl rfl).2]at t;simp at t;rcases t with rfl|rfl|rfl<;>exact⟨rfl,.inr (.inl E)⟩
 clear i p m j d;refine a9 (bD c) ?_;walk_nrm
 repeat w_go af.on
 refine fN rfl hF λg d z j a F m p hF=>?_;have B:=af.p5 hF;rw[fO]at B;rw[fO];have V:=K.now hF;have Q:a.heap[bk]?=some (Obj.cells #[.I (T:Int),.I (fr T:Int),.I (aZ T:Int)] 184):=(hF.rw.heap bk (.inr E)).trans H;refine Jo (σ:=ep c ⟨.idle,false,0,f+31,.work (.has T) q⟩ k a) AF rfl rfl Ap (pf (vs:=#[.P c.st 0,gl,.agg #[.I (T:Int),.I (fr T:Int),.I (aZ T:Int)]]) rfl func82 atr rfl CK a) (Us q T k a hT (hI.more V)) B ?_;have P:=I.step S ⟨λ_ h=>h,hF.rw,B⟩;clear hF K I H p m j d B;rintro u _ ⟨rfl,v,o,C,N,vk,rfl⟩ s eF D;have hF:af (al (av c)) o C [] s:=D;clear D;have O:=N.sub bk E;have H:=N.heap E Q;have K:=V.trans N;have I:oI c cV ((T,v)::q) o C:=by
  intro x hx J;rcases vbo.1 hx with rfl|hx
  .exact vk J
  .exact P.step S N x hx J
 clear N V P Q E vk;simp only[ep];rw[<-fO (M:=o)];refine a9 (bD c) ?_;walk_nrm
 repeat w_go af.on
 refine fN rfl hF λg d z j a F m p hF=>?_;have i:a.heap[bk]?=some (Obj.cells #[.I (T:Int),.I (fr T:Int),.I (aZ T:Int)] 184):=(hF.rw.heap bk (.inr O)).trans H;refine sY AF rfl (λb J=>hF.eV b (.inr J)) (vay rfl rfl Ap (Bm i rfl rfl).1) rfl (λe A=>?_) ?_
 .have t:=vbs A;rw[(Bm i rfl rfl).2]at t;simp at t;rcases t with rfl|rfl|rfl<;>exact⟨rfl,.inr (.inl O)⟩
 clear i p m j d;refine a9 (bD c) ?_;walk_nrm
 repeat w_go af.on
 refine fN rfl hF λg d z j a F m p hF=>?_;refine tX AF kg rfl hF (vay (v:=.P a.heap.size 0) (w':=a.alloc (Obj.cells #[.I 0,.I 0,.I 0] 184)) rfl rfl Ap Ar) rfl BB (λy=>?_);clear hF;have hF:=y;clear y p m j d;generalize a.heap.size=r at hF⊢;generalize a.alloc (Obj.cells #[.I 0,.I 0,.I 0] 184)=w3 at hF⊢;refine a9 (bD c) ?_;walk_nrm
 repeat w_go af.on
 refine fN rfl hF λg d z j a F m p hF=>?_;have i:=hF.cW (r,.cells #[.I 0,.I 0,.I 0] 184) Ab;refine CJ AF rfl (pre:=[]) (post:=[]) hF (vdj (w':=a.setRow r #[.I (T:Int),.I (fr T:Int),.I (aZ T:Int)]) rfl rfl Ap (ql i ⟨rfl,rfl,rfl⟩ rfl rfl rfl).1) rfl (λe A=>?_) (λy=>?_)
 .have t:=vbs A;rw[(ql i ⟨rfl,rfl,rfl⟩ rfl rfl rfl).2]at t;grind
 clear hF;have hF:=y;clear y i p m j d;simp only[vej]at hF⊢;refine a9 (bD c) ?_;walk_nrm
 repeat w_go af.on
 refine fN rfl hF λg d z j a F m p hF=>?_;have B:=af.p5 hF;refine Jo (σ:=ep c ⟨.idle,false,0,f+15,.work .free ((T,v)::q)⟩ (cj o [(r,Obj.cells #[.I (T:Int),.I (fr T:Int),.I (aZ T:Int)] 184)]) a) AF rfl rfl Ap (pf (vs:=#[.P c.st 0]) rfl func81 Q2 rfl CK a) (Oq _ _ a B) B ?_;clear p m j d;rintro u _ (⟨rfl,rfl⟩|⟨km,atu,rfl,rfl⟩) s eF D
 .skip
  have a4:oG c.N eF.aj:=D.2;have R:af (al (av c)) (cj o [(r,Obj.cells #[.I (T:Int),.I (fr T:Int),.I (aZ T:Int)] 184)]) a [] s:=D.1;replace hF:=hF.on R.rw;clear D R B;simp only[wR];refine a9 (bD c) ?_;walk_nrm
  repeat w_go af.on
  refine fN rfl hF λg d z j a F m p hF=>?_;replace a4:=r4 (r4 a4 (t_ (c:=c) (l:=⟨.idle,false,0,f+1,.work .free ((T,v)::q)⟩) j)) (t_ (c:=c) (l:=⟨.idle,false,0,f+1,.work .free ((T,v)::q)⟩) m);have i:=hF.cW (r,.cells #[.I (T:Int),.I (fr T:Int),.I (aZ T:Int)] 184) Ab;refine CJ AF rfl (pre:=[]) (post:=[]) hF (vdj (w':=a.setRow r #[.I 0,.I 0,.I 0]) rfl rfl Ap (ql i ⟨rfl,rfl,rfl⟩ rfl rfl rfl).1) rfl (λe A=>?_) (λy=>?_)
  .have t:=vbs A;rw[(ql i ⟨rfl,rfl,rfl⟩ rfl rfl rfl).2]at t;grind
  clear hF;have hF:=y;clear y i p m j d;simp only[vej]at hF⊢;refine a9 (bD c) ?_;walk_nrm
  repeat w_go af.on
  u_in af.on hF
  refine vei rfl rfl func51 rfl ⟨CM,?_⟩;refine vah (λg d=>⟨rfl,λz j=>?_⟩);replace hF:=hF.on d;have L:gj (al (av c)) o C (cj o [(r,Obj.cells #[.I 0,.I 0,.I 0] 184)]) g:=⟨λ_ h=>.inl h,hF.rw,af.p5 hF⟩;exact hK ((T,v)::q) (cj o [(r,Obj.cells #[.I 0,.I 0,.I 0] 184)]) g (K.trans L) (I.step S L) g z (af.p5 hF) (r4 a4 (t_ (c:=c) (l:=⟨.idle,false,0,f+1,.work .free ((T,v)::q)⟩) j))
 .skip
  have R:af (al (av c)) (cj o [(r,Obj.cells #[.I (T:Int),.I (fr T:Int),.I (aZ T:Int)] 184)]) a [] s:=D;replace hF:=hF.on R.rw;clear D R B;simp only[ep];refine a9 (bD c) ?_;walk_nrm
  repeat w_go af.on
  refine fN rfl hF λg d z j a F m p hF=>?_;have i:=hF.cW (r,.cells #[.I (T:Int),.I (fr T:Int),.I (aZ T:Int)] 184) Ab;refine CJ AF rfl (pre:=[]) (post:=[]) hF (vdj (w':=a.setRow r #[.I (km:Int),.I (fr km:Int),.I (aZ km:Int)]) rfl rfl Ap (ql i ⟨rfl,rfl,rfl⟩ rfl rfl rfl).1) rfl (λe A=>?_) (λy=>?_)
  .have t:=vbs A;rw[(ql i ⟨rfl,rfl,rfl⟩ rfl rfl rfl).2]at t;grind
  clear hF;have hF:=y;clear y i p m j d;simp only[vej]at hF⊢;refine a9 (bD c) ?_;walk_nrm
  iterate 3 w_go af.on
  refine vah (λg d=>⟨rfl,λz j=>?_⟩);replace hF:=hF.on d;have L:gj (al (av c)) o C (cj o [(r,Obj.cells #[.I (km:Int),.I (fr km:Int),.I (aZ km:Int)] 184)]) g:=⟨λ_ h=>.inl h,hF.rw,af.p5 hF⟩;exact ih ((T,v)::q) (cj o [(r,Obj.cells #[.I (km:Int),.I (fr km:Int),.I (aZ km:Int)] 184)]) g r km _ _ _ _ _ _ _ _ _ _ _ _ _ _ _ _ _ _ AF atu (.inr Ab) (hF.cW (r,Obj.cells #[.I (km:Int),.I (fr km:Int),.I (aZ km:Int)] 184) Ab) (K.trans L) (I.step S L) g z (af.p5 hF)
def atv{f:Nat}{M:c7}{w0 b4:aL}(R:nZ c b4 w0)(F:∀T v M w M' w',cV T v M w->(∀b,c.K b\/M b->w'.heap[b]?=w.heap[b]?)->(∀b,M b->M' b)->cV T v M' w')(O:∀q t w1,af (al (av c)) t w1 [] w1->jw prog Stop false 81 #[.P c.st 0] (ep c ⟨.idle,false,0,f+15,.work .free q⟩ t w1) (λu y=>(u=.tuple #[.agg #[.I 0,.I 0,.I 0],.F]/\y=wR c ⟨.idle,false,0,f+1,.work .free q⟩ t w1)\/∃T,T<c.N/\u=.tuple #[.agg #[.I (T:Int),.I (fr T:Int),.I (aZ T:Int)],.T]/\y=ep c ⟨.idle,false,0,f+31,.work (.has T) q⟩ t w1))(W:∀q T t w1,T<c.N->nZ c b4 w1->jw prog Stop false 82 #[.P c.st 0,gl,.agg #[.I (T:Int),.I (fr T:Int),.I (aZ T:Int)]] (ep c ⟨.idle,false,0,f+31,.work (.has T) q⟩ t w1) (λu y=>u=.tuple #[]/\∃v J n,gj (al (av c)) t w1 J n/\(c.b3 T=false->cV T v J n)/\y=ep c ⟨.idle,false,0,f+15,.work .free ((T,v)::q)⟩ J n)):
 jw prog Stop false 51 #[.P c.st 0,gl] (ep c ⟨.idle,false,0,f+15,.work .free []⟩ M w0) (λu y=>u=.tuple #[]/\∃q M' w1,gj (al (av c)) M w0 M' w1/\oI c cV q M' w1/\y=wR c ⟨.idle,false,0,f+1,.work .free q⟩ M' w1):=by
 intro a2 aF aC aJ aO aH csZ K w γ hS;have hK:∀q M' w1,gj (al (av c)) M w0 M' w1->oI c cV q M' w1->∀w γ,af (al (av c)) M' w1 [] w->oG c.N γ.aj->bg (al (av c)) prog Stop false ⟨.idle,false,0,f+1,.work .free q⟩ γ ⟨Conc.G (a2.at (aF.put ((aC[aJ]?).bind (·.dst)) (.tuple #[])) (.inRegion aC aO::aH)) csZ,w,M'⟩:=λq M' w1 Y X w γ U S=>K (.tuple #[]) (wR c ⟨.idle,false,0,f+1,.work .free q⟩ M' w1) AF w γ ⟨U,S⟩;clear K;have hF:af (al (av c)) M w0 [] w:=hS;clear hS;have L:=(dk (bD c)).nb;rw[vdv _ func51 rfl];unfold ep;rw[<-fO (M:=M)];refine a9 (bD c) ?_;walk_nrmf f51
 repeat w_go af.on
 refine fN rfl hF λg d r i a D m o hF=>?_;have B:=af.p5 hF;rw[fO]at B;rw[fO];have C:gj (al (av c)) M w0 M a:=⟨λ_ h=>h,hF.rw,B⟩;clear hF;refine Jo (σ:=ep c ⟨.idle,false,0,f+15,.work .free []⟩ M a) AF rfl rfl Ap (pf (vs:=#[.P c.st 0]) rfl func81 Q2 rfl CK a) (O [] M a B) B ?_;clear o m i d B;rintro u _ (⟨rfl,rfl⟩|⟨T,Q,rfl,rfl⟩) p V A
 .skip
  have a4:oG c.N V.aj:=A.2;have hF:af (al (av c)) M a [] p:=A.1;clear A;generalize a=n at hF C;have E:oI c cV [] M n:=λx P=>AF;simp only[wR];rw[<-fO (M:=M)];refine a9 (bD c) ?_;walk_nrm
  repeat w_go af.on
  refine fN rfl hF λg d r i a D m o hF=>?_;replace a4:=r4 (r4 a4 (t_ (c:=c) (l:=⟨.idle,false,0,f+1,.work .free []⟩) i)) (t_ (c:=c) (l:=⟨.idle,false,0,f+1,.work .free []⟩) m);refine tX AF L rfl hF (vay (v:=.P a.heap.size 0) (w':=a.alloc (Obj.cells #[.I 0,.I 0,.I 0] 184)) rfl rfl Ap Ar) rfl BB (λk=>?_);clear hF;have hF:=k;clear k o m i d;generalize a.heap.size=j at hF⊢;generalize a.alloc (Obj.cells #[.I 0,.I 0,.I 0] 184)=w3 at hF⊢;refine a9 (bD c) ?_;walk_nrm
  repeat w_go af.on
  refine fN rfl hF λg d r i a D m o hF=>?_;replace a4:=r4 (r4 a4 (t_ (c:=c) (l:=⟨.idle,false,0,f+1,.work .free []⟩) i)) (t_ (c:=c) (l:=⟨.idle,false,0,f+1,.work .free []⟩) m);have s:=hF.cW (j,.cells #[.I 0,.I 0,.I 0] 184) Ab;refine CJ AF rfl (pre:=[]) (post:=[]) hF (vdj (w':=a.setRow j #[.I 0,.I 0,.I 0]) rfl rfl Ap (ql s ⟨rfl,rfl,rfl⟩ rfl rfl rfl).1) rfl (λe H=>?_) (λk=>?_)
  .have I:=vbs H;rw[(ql s ⟨rfl,rfl,rfl⟩ rfl rfl rfl).2]at I;grind
  clear hF;have hF:=k;clear k s o m i d;simp only[vej]at hF⊢;refine a9 (bD c) ?_;walk_nrm
  repeat w_go af.on
  u_in af.on hF
  refine vei rfl rfl func51 rfl ⟨CM,?_⟩;refine vah (λg d=>⟨rfl,λr i=>?_⟩);replace hF:=hF.on d;have z:gj (al (av c)) M n (cj M [(j,Obj.cells #[.I 0,.I 0,.I 0] 184)]) g:=⟨λ_ h=>.inl h,hF.rw,af.p5 hF⟩;exact hK [] (cj M [(j,Obj.cells #[.I 0,.I 0,.I 0] 184)]) g (C.trans z) (E.step F z) g r (af.p5 hF) (r4 a4 (t_ (c:=c) (l:=⟨.idle,false,0,f+1,.work .free []⟩) i))
 .skip
  have hF:af (al (av c)) M a [] p:=A;clear A;generalize a=n at hF C;have E:oI c cV [] M n:=λx P=>AF;simp only[ep];rw[<-fO (M:=M)];refine a9 (bD c) ?_;walk_nrm
  repeat w_go af.on
  refine fN rfl hF λg d r i a D m o hF=>?_;refine tX AF L rfl hF (vay (v:=.P a.heap.size 0) (w':=a.alloc (Obj.cells #[.I 0,.I 0,.I 0] 184)) rfl rfl Ap Ar) rfl BB (λk=>?_);clear hF;have hF:=k;clear k o m i d;generalize a.heap.size=j at hF⊢;generalize a.alloc (Obj.cells #[.I 0,.I 0,.I 0] 184)=w3 at hF⊢;refine a9 (bD c) ?_;walk_nrm
  repeat w_go af.on
  refine fN rfl hF λg d r i a D m o hF=>?_;have s:=hF.cW (j,.cells #[.I 0,.I 0,.I 0] 184) Ab;refine CJ AF rfl (pre:=[]) (post:=[]) hF (vdj (w':=a.setRow j #[.I (T:Int),.I (fr T:Int),.I (aZ T:Int)]) rfl rfl Ap (ql s ⟨rfl,rfl,rfl⟩ rfl rfl rfl).1) rfl (λe H=>?_) (λk=>?_)
  .have I:=vbs H;rw[(ql s ⟨rfl,rfl,rfl⟩ rfl rfl rfl).2]at I;grind
  clear hF;have hF:=k;clear k s o m i d;simp only[vej]at hF⊢;refine a9 (bD c) ?_;walk_nrm
  iterate 4 w_go af.on
  refine vah (λg d=>⟨rfl,λr i=>?_⟩);replace hF:=hF.on d;have z:gj (al (av c)) M n (cj M [(j,Obj.cells #[.I (T:Int),.I (fr T:Int),.I (aZ T:Int)] 184)]) g:=⟨λ_ h=>.inl h,hF.rw,af.p5 hF⟩;have N:=att R F O W hK c.N;simp only[f51,vae,bR.dG]at N;exact N [] (cj M [(j,Obj.cells #[.I (T:Int),.I (fr T:Int),.I (aZ T:Int)] 184)]) g j T _ _ _ _ _ _ _ _ _ _ _ _ _ _ _ _ _ _ Ab Q (.inr Ab) (hF.cW (j,Obj.cells #[.I (T:Int),.I (fr T:Int),.I (aZ T:Int)] 184) Ab) (C.trans z) (E.step F z) g r (af.p5 hF)
end
end
end iS
namespace bc
open Conc ConcM RowKit az bo cF c3
section
variable{O:gW}
def mB(T:uaa)(w w':aL):Prop:=w.heap.size<=w'.heap.size/\∀(b:Nat) c e z,w.heap[b]?=some (.cells c e z)->∃c',w'.heap[b]?=some (.cells c' e z)/\c'.size=c.size/\(e≠T->c'=c)
def lu(T:uaa)(F:a5):Prop:=∀w w' v,mB T w w'->F.R w v->F.R w' v
structure oc where
 g:Nat
 pos:Nat->Bool
 od:Nat->Bool
 j1:List (Nat×TypeId×Nat)
def oc.st(S:oc)(j:Nat):Option (TypeId×Nat):=(S.j1.find? λp=>p.1==j).map (·.2)
def rm(S:oc)(j:Nat)(o:Oper):Option Nat:=match S.st j with|some p=>some p.2|none=>o.dst
def MO(od:ube)(acc:bJ):bJ:=λs=>if od s then acc s else none
def UN(L K:bJ):bJ:=λs=>match L s with|some F=>some F|none=>K s
def auK{N:Nat}{L K:bJ}{a:Act}{w:aL}(b:af N L a w)(c:af N K a w):af N (UN L K) a w:=⟨b.size,λs F e=>by
 unfold UN at e;split at e
 .cases e;exact b.has s _ AF
 .exact c.has s F e⟩
def Bp(P:cf)(N n0:Nat)(E:bJ)(o:Oper)(p:TypeId×Nat)(F:a5):Prop:=o.guard=none/\o.dst=none/\∀a w,af N E a w->∃w',(execOp a.eval o).run P w=.ok .skip w'/\mB p.1 w w'/\Below n0 w w'/\∃v,a.tmps[p.2]?=some v/\F.R w' v
def zR(S:oc)(ops:du)(L K:bJ)(j:Nat)(acc:bJ)(o:Oper):bJ:=if S.pos j then vE K ops (MO S.od acc) o else vE (UN L K) ops acc o
def auL(P:cf)(N n0:Nat)(ops:du)(E:bJ)(o:Oper)(F:a5):Prop:=(sj ops E o true/\∀a w,n0<=w.heap.size->af N E a w->yO P o F a w)\/(sj ops E o false/\F=pp)
def Bq(P:cf)(N n0:Nat)(ops:du)(S:oc)(dS:a5)(pw:bJ->Prop)(j:Nat)(E:bJ)(o:Oper)(F:a5):Prop:=
 match S.st j with
 |some p=>j≠S.g/\Bp P N n0 E o p F
 |none=>j=S.g/\pw E/\F=dS\/j≠S.g/\auL P N n0 ops E o F
abbrev tn(P:cf)(N n0:Nat)(ops:du)(S:oc)(L K:bJ)(dS:a5)(pw:bJ->Prop):List Oper->Nat->bJ->bJ->bJ->Prop:=
 yQ (rm S) S.od (λj acc o F=>F.ok n0/\(S.od j=true->∀p∈S.j1,p.1≠j->lu p.2.1 F)/\Bq P N n0 ops S dS pw j (zR S ops L K j acc o) o F) N
section
variable{P:cf}{N n0:Nat}{ops:du}{S:oc}{L K K':bJ}{dS:a5}{pw:bJ->Prop}{o:Oper}{l:uba}{j:Nat}{acc gY:bJ}{d:Nat}{F:a5}
def hn(hd:o.dst=some d)(c:∀a w,n0<=w.heap.size->af N (zR S ops L K j acc o) a w->yO P o F a w)(h:tn P N n0 ops S L K dS pw l (j+1) (up acc j F) (if S.od j then up gY d F else gY) K')(hs:S.od j=true->∀p∈S.j1,p.1≠j->lu p.2.1 F:=by first|(intro h;cases h;done)|(intro _ _ h;cases h;done))(hg:o.guard=none:=by rfl)(a4:d<N:=by decide)(e:j≠S.g:=by decide)(b:S.st j=none:=by rfl)(hok:F.ok n0:=by first|exact trivial|exact rfl):tn P N n0 ops S L K dS pw (o::l) j acc gY K':=⟨d,by unfold rm;rw[b];exact hd,a4,F,⟨hok,hs,by unfold Bq;rw[b];exact .inr ⟨e,.inl ⟨Gl,c⟩⟩⟩,h⟩
def hq(hd:o.dst=some d)(b:bA P N (zR S ops L K j acc o) o F)(h:tn P N n0 ops S L K dS pw l (j+1) (up acc j F) (if S.od j then up gY d F else gY) K')(hs:S.od j=true->∀p∈S.j1,p.1≠j->lu p.2.1 F:=by first|(intro h;cases h;done)|(intro _ _ h;cases h;done))(hg:o.guard=none:=by rfl)(a4:d<N:=by decide)(e:j≠S.g:=by decide)(c:S.st j=none:=by rfl)(hok:F.ok n0:=by first|exact trivial|exact rfl):tn P N n0 ops S L K dS pw (o::l) j acc gY K':=hn hd (λa w _ h=>b a w h) h hs hg a4 e c hok
def hg(hd:o.dst=some d)(b:pw (zR S ops L K j acc o))(h:tn P N n0 ops S L K dS pw l (j+1) (up acc j dS) (if S.od j then up gY d dS else gY) K')(hs:S.od j=true->∀p∈S.j1,p.1≠j->lu p.2.1 dS:=by first|(intro h;cases h;done)|(intro _ _ h;cases h;done))(a4:d<N:=by decide)(c:j=S.g:=by rfl)(a:S.st j=none:=by rfl)(hok:dS.ok n0:=by exact trivial):tn P N n0 ops S L K dS pw (o::l) j acc gY K':=⟨d,by unfold rm;rw[a];exact hd,a4,dS,⟨hok,hs,by unfold Bq;rw[a];exact .inl ⟨c,b,U⟩⟩,h⟩
def hk{B:ubi}(hd:o.dst=some d)(a:bA P N (zR S ops L K j acc o) o F)(hs:∀T,B T->lu T F)(c:∀p∈S.j1,B p.2.1)(h:tn P N n0 ops S L K dS pw l (j+1) (up acc j F) (if S.od j then up gY d F else gY) K')(hg:o.guard=none:=by rfl)(a4:d<N:=by decide)(f:j≠S.g:=by decide)(e:S.st j=none:=by rfl)(hok:F.ok n0:=by first|exact trivial|exact rfl):tn P N n0 ops S L K dS pw (o::l) j acc gY K':=hq hd a h (λ_ p b _=>hs _ (c p b)) hg a4 f e hok
def hst{p:TypeId×Nat}(a:S.st j=some p)(b:Bp P N n0 (zR S ops L K j acc o) o p F)(h:tn P N n0 ops S L K dS pw l (j+1) (up acc j F) (if S.od j then up gY p.2 F else gY) K')(hs:S.od j=true->∀p∈S.j1,p.1≠j->lu p.2.1 F:=by first|(intro h;cases h;done)|(intro _;decide))(a4:p.2<N:=by decide)(c:j≠S.g:=by decide)(hok:F.ok n0:=by exact U):tn P N n0 ops S L K dS pw (o::l) j acc gY K':=⟨p.2,by unfold rm;rw[a],a4,F,⟨hok,hs,by unfold Bq;rw[a];exact⟨c,b⟩⟩,h⟩
end
def EE(S:oc)(au:uat):Prop:=∀p∈S.j1,au.getD p.1 false=false
structure mC(N:Nat)(ops:du)(S:oc)(L Q:bJ)(c0:Nat->a5)(au:uat)(a:Act)(w:aL):Prop where
 len:au.size=ops.size
 size:a.tmps.size=N
 yR:∀p∈S.j1,au.getD p.1 false=true->∀i,i<ops.size->S.pos i=false->i≠p.1->au.getD i false=true
 loc:EE S au->af N L a w
 He:af N Q a w
 val:∀(j:Nat) o d,ops[j]?=some o->rm S j o=some d->au.getD j false=true->EE S au\/S.od j=true->∃v,a.tmps[d]?=some v/\(c0 j).R w v
structure mA(ops:du)(S:oc)(L Q K:bJ):Prop where
 one:∀(i j:Nat) o o' d,ops[i]?=some o->ops[j]?=some o'->rm S i o=some d->o'.dst=some d->S.st j=none->i=j\/S.pos j=false/\∃p∈S.j1,p.1=i
 l:∀(i:Nat) o d,ops[i]?=some o->o.dst=some d->L d=none/\Q d=none/\K d=none
 x:∀p∈S.j1,S.st p.1=some p.2/\p.1<ops.size/\(∀i,i<ops.size->S.pos i=false->i≠p.1->Bd ops p.1 i=true)/\∀q∈S.j1,q.2.2=p.2.2->q=p
 sd:∀(j:Nat) o q,S.st j=some q->ops[j]?=some o->o.dst=none
 g:S.pos S.g=false/\S.st S.g=none
 yR:(List.range ops.size).all (λj=>match ops[j]? with|some o=>o.after.all λe=> !Region.binds .any e||decide (e.on<j)|none=>true)=true
def KE(ops:du)(S:oc):Bool:=
 ((List.range ops.size).all λi=>(List.range ops.size).all λj=>i==j||(ops[j]?).bind (·.dst)==none||(S.st j).isSome||(ops[i]?).bind (rm S i) != (ops[j]?).bind (·.dst)||(!S.pos j&&S.j1.any λp=>p.1==i))&&
 (S.j1.all λp=>S.st p.1==some p.2&&decide (p.1<ops.size)&&((List.range ops.size).all λi=>S.pos i||i==p.1||Bd ops p.1 i)&&S.j1.all λq=>q.2.2 != p.2.2||q==p)&&
 ((List.range ops.size).all λj=>S.st j==none||(ops[j]?).bind (·.dst)==none)&&
 (!S.pos S.g&&S.st S.g==none)&&
 ((List.range ops.size).all λj=>match ops[j]? with|some o=>o.after.all λe=> !Region.binds .any e||decide (e.on<j)|none=>true)
theorem mA.of{ops:du}{L Q K:bJ}{S:oc}(h:KE ops S=true)(g:qg L ops.toList=true)(c:qg Q ops.toList=true)(hK:qg K ops.toList=true):mA ops S L Q K:=by
 unfold KE at h;simp only[vaf,List.all_eq_true,List.mem_range,Bool.or_eq_true,beq_iff_eq,bne_iff_ne,Bool.not_eq_true',decide_eq_true_eq,List.any_eq_true]at h;obtain⟨⟨⟨⟨n,m⟩,r⟩,f⟩,e⟩:=h;have b:∀{K:bJ},qg K ops.toList=true->∀(i:Nat) o d,ops[i]?=some o->o.dst=some d->K d=none:=λhK i o d a hd=>by unfold qg at hK;rw[List.all_eq_true]at hK;have:=hK o (Array.mem_toList_iff.2 (vbe a));simp_all
 refine⟨λi j o o' d hi l s dj hs=>?_,λi o d a hd=>⟨b g i o d a hd,b c i o d a hd,b hK i o d a hd⟩,λp k=>?_,λj o q hq a=>?_,f,by simpa using e⟩
 .grind
 .grind
 .grind
section
variable{P:cf}{N n0:Nat}{ops:du}{S:oc}{L Q K:bJ}{c0:Nat->a5}{au:uat}{a:Act}{w w1:aL}
def MN(r:∀s F,L s=some F->F.ok n0)(g:∀s F,Q s=some F->F.ok n0)(hF:∀j,j<ops.size->(c0 j).ok n0):qe n0 (mC N ops S L Q c0 au):=by intro ρ a a' w w' c b h;refine⟨h.len,by rw[<-b.size];exact h.size,h.yR,λq=>lq n0 r ρ a a' w w' c b (h.loc q),lq n0 g ρ a a' w w' c b h.He,λj o d e p n m=>?_⟩;obtain⟨v,l,k⟩:=h.val j o d e p n m;obtain⟨f,k3,i⟩:=b.some l;exact⟨f,k3,(c0 j).io _ (hF j (vam.1 e).1) _ _ _ _ _ c i k⟩
def mC.start(h:af N L a w)(hq:af N Q a w):mC N ops S L Q c0 (Array.replicate ops.size false) a w:=⟨Ab,h.size,λp _ q=>by grind[Tq],λ_=>h,hq,λj o d _ _ q=>by grind[Tq]⟩
def mC.auM(g:mA ops S L Q K)(h:mC N ops S L Q c0 au a w){i:Nat}(f:i<ops.size)(d:S.pos i=false)(b:au.getD i false=false):EE S au:=λp c=>by
 cases e:au.getD p.1 false with
 |false=>rfl
 |true=>
  by_cases hi:i=p.1
  .grind
  .rw[h.yR p c e i f d hi]at b;cases b
def mC.env(j:mA ops S L Q K)(h:mC N ops S L Q c0 au a w)(hK:af N K a w){i:Nat}{o:Oper}(c:ops[i]?=some o)(l:au.getD i false=false)(k:∀e∈o.after,Region.binds .any e=true->au.getD e.on false=true):af N (zR S ops L K i (λs=>if 0<=s/\s<i then some (c0 s)else none) o) a w:=by
 have f:i<ops.size:=(vam.1 c).1;have key:∀B acc,af N B a w->(∀s F,acc s=some F->F=c0 s/\(EE S au\/S.od s=true))->af N (vE B ops acc o) a w:=λB acc m n=>⟨h.size,λs F e=>by
  unfold vE at e;split at e
  .rename_i x g;have b:=List.find?_some g;have q:=List.mem_of_find?_eq_some g;simp at b;obtain⟨rfl,hF⟩:=n _ _ e;cases c:ops[x.on]? with
   |none=>grind
   |some o'=>
    simp[c]at b;refine h.val _ o' s c ?_ (k x AF b.1) hF;unfold rm;split
    .rename_i p d;rw[j.sd _ _ _ d c]at b;cases b.2
    .exact b.2
  .exact m.has s F e⟩
 unfold zR;split
 .refine key K _ hK λs F e=>?_;unfold MO at e;grind
 .rename_i d;have h0:=h.auM j f (by simpa using d) l;exact key _ _ (auK (h.loc h0) hK) λs F e=>AF
def UO(b:mA ops S L Q K){i:Nat}(hs:S.st i=none){p:Nat×TypeId×Nat}(a:p∈S.j1):i≠p.1:=λe=>by rw[e,(b.x p a).1]at hs;cases hs
def UP{au:uat}{i j:Nat}(h:i≠j):(au.setIfInBounds i true).getD j false=au.getD j false:=by simp_all
def MK{N:Nat}{K:bJ}{a:Act}{w w1:aL}(h:af N K a w){d:Nat}(hd:K d=none)(f:cC w w1){v:Value}:af N K (a.put (some d) v) w1:=⟨Gk,λs F e=>by
 obtain⟨x,c,b⟩:=h.has s F e;exact⟨x,(dF λx=>AF).trans c,F.h8 _ _ _ f b⟩⟩
theorem mC.put(f:mA ops S L Q K)(h:mC N ops S L Q c0 au a w){i:Nat}{o:Oper}{d:Nat}(k:ops[i]?=some o)(hd:o.dst=some d)(hs:S.st i=none)(a4:d<N)(r:au.getD i false=false)(m:cC w w1){v:Value}(hv:(c0 i).R w1 v):mC N ops S L Q c0 (au.setIfInBounds i true) (a.put (some d) v) w1:=by
 have hi:i<au.size:=Fi;have hn:EE S (au.setIfInBounds i true)↔EE S au:=⟨λq p b=>(UP (UO f hs b))▸q p b,λq p b=>(UP (UO f hs b)).trans (q p b)⟩;refine⟨El,Gk,λp b q j g c n=>?_,λq=>MK (h.loc (hn.1 q)) (f.l i o d k hd).1 m,MK h.He (f.l i o d k hd).2.1 m,λj o' t g c n z=>?_⟩
 .rw[UP (UO f hs b)]at q;exact(si hi).2 (.inr (h.yR p b q j g c n))
 .by_cases e:j=i
  .subst e;rw[k]at g;cases g;unfold rm at c;rw[hs]at c;rw[hd]at c;cases c;exact⟨v,jz (by rw[h.size];exact a4),hv⟩
  .have s:=((si hi).1 n).resolve_left e;obtain⟨x,y,u⟩:=h.val j o' t g c s (z.imp hn.1 id);have l:d≠t:=λx=>by
    subst x;rcases f.one j i o' o d g k c hd hs with q|⟨q,p,b,rfl⟩
    .exact e q
    .rw[h.yR p b s i (by rw[<-h.len];exact hi) q (Ne.symm e)]at r;cases r
   exact⟨x,(dF l).trans y,(c0 j).h8 _ _ _ m u⟩
theorem mC.store(E:mA ops S L Q K)(h:mC N ops S L Q c0 au a w){p:Nat×TypeId×Nat}(k:p∈S.j1){o:Oper}(B:ops[p.1]?=some o)(A:∀e∈o.after,Region.binds .any e=true->au.getD e.on false=true)(t:mB p.2.1 w w1)(hst:∀j,j<ops.size->S.od j=true->p.1≠j->lu p.2.1 (c0 j))(M:∀s F,Q s=some F->∀p∈S.j1,lu p.2.1 F){v:Value}(e:a.tmps[p.2.2]?=some v)(hv:(c0 p.1).R w1 v):mC N ops S L Q c0 (au.setIfInBounds p.1 true) a w1:=by
 obtain⟨dw,dI,I,-⟩:=E.x p k;have hi:p.1<au.size:=by rw[h.len];exact dI
 have r:(au.setIfInBounds p.1 true).getD p.1 false=true:=(si hi).2 KB;have hn:¬EE S (au.setIfInBounds p.1 true):=λq=>by rw[q p k]at r;cases r
 refine⟨El,h.size,λq hq z j c b l=>(si hi).2 ?_,λq=>absurd q hn,⟨h.size,λs F f=>by
  obtain⟨x,i,g⟩:=h.He.has s F f;exact⟨x,i,M s F f p k _ _ _ t g⟩⟩,λj o' J c b l H=>?_⟩
 .by_cases d:j=p.1
  .exact .inl d
  rcases(si hi).1 z with z|z
  .obtain⟨o',y,e,C,D,rfl⟩:=Tu (I j c b d);rw[B]at y;cases y;exact .inr (A e C D)
  .exact .inr (h.yR q hq z j c b l)
 .have n:=H.resolve_left hn;by_cases m:j=p.1
  .subst m;unfold rm at b;rw[dw]at b;cases b;exact⟨v,e,hv⟩
  .obtain⟨u,i,g⟩:=h.val j o' J c b (((si hi).1 l).resolve_left m) (.inr n);exact⟨u,i,hst j (vam.1 c).1 n (Ne.symm m) _ _ _ t g⟩
def Mw{j:Nat}{q:TypeId×Nat}(h:S.st j=some q):(j,q)∈S.j1:=by unfold oc.st at h;obtain⟨p,a,rfl⟩:=vaj.1 h;have:=List.find?_some a;have:=List.mem_of_find?_eq_some a;grind
theorem mC.step{dS:a5}{pw:bJ->Prop}(r:mA ops S L Q K)(O:∀s F,Q s=some F->∀p∈S.j1,lu p.2.1 F)(x:∀(j:Nat) o,ops[j]?=some o->∃d,rm S j o=some d/\d<N/\(c0 j).ok n0/\(S.od j=true->∀p∈S.j1,p.1≠j->lu p.2.1 (c0 j))/\Bq P N n0 ops S dS pw j (zR S ops L K j (λs=>if 0<=s/\s<j then some (c0 s)else none) o) o (c0 j))(h:mC N ops S L Q c0 au a w)(hK:af N K a w){i:Nat}{o:Oper}(z:i≠S.g)(t:n0<=w.heap.size)(m:au.getD i true=false)(b:ops[i]?=some o)(u:∀e∈o.after,Region.binds .any e=true->au.getD e.on false=true):
 wpOps P ops (kj λa1 w1=>((∃d v,o.dst=some d/\a1=a.put (some d) v)\/a1=a)/\mC N ops S L Q c0 (au.setIfInBounds i true) a1 w1/\Below n0 w w1) [i] a w:=by
 have m:au.getD i false=false:=AF;obtain⟨d,c,I,U,T,k⟩:=x i o b;have l:=h.env r hK b m u;unfold Bq at k;unfold rm at c;cases hs:S.st i with
 |some q=>
  simp only[hs]at k;obtain⟨-,g1,f,J⟩:=k;obtain⟨w',D,C,k3,v,B,M⟩:=J a w l;exact qf b g1 f D ⟨.inr rfl,h.store r (p:=(i,q)) (Mw hs) b u C (λj H E n=>by
   obtain⟨-,-,-,-,A,-⟩:=x j _ (vao H);exact A E _ (Mw hs) n) O B M,k3⟩
 |none=>
  simp only[hs]at k c;obtain⟨q,-⟩|⟨-,g⟩:=k
  .exact absurd q z
  refine h7 (R:=λa1 w1=>(∃v,a1=a.put (some d) v/\(c0 i).R w1 v)/\cC w w1) (by
   rcases g with⟨g1,f⟩|⟨g1,f⟩
   .exact Xq b (g1.is l) c (f a w t l)
   .exact Xz b (g1.is l) c ⟨⟨undef,rfl,by rw[f];rfl⟩,vaa _ _⟩) ?_
  rintro a1 w1 ⟨⟨v,rfl,hv⟩,y⟩;exact⟨rfl,.inl ⟨d,v,c,rfl⟩,h.put r b c hs I m y hv,y.mono t⟩
def mC.dN(g:mA ops S L Q K)(h:mC N ops S L Q c0 au a w)(hK:af N K a w)(f:Region.ready .any ops au=[]){K' gY:bJ}(m:∀s F,gY s=some F->K s=some F\/S.j1=[]/\L s=some F)(j:∀s F,K' s=some F->(∃i o,ops.toList[i]?=some o/\rm S (0+i) o=some s/\F=c0 (0+i)/\S.od (0+i)=true)\/gY s=some F):af N K' a w:=⟨h.size,λs F e=>by
 have hdone:=Tl g.yR h.len f;rcases j s F e with⟨i,o,b,c,rfl,k3⟩|k
 .rw[vbr]at c k3⊢;have b:ops[i]?=some o:=AF;exact h.val i o s b c (hdone i (vam.1 b).1) (.inr k3)
 .rcases m s F k with k|⟨l,k⟩
  .exact hK.has s F k
  .exact(h.loc λp d=>by rw[l]at d;cases d).has s F k⟩
end
section
variable{P:cf}{Post:uab}{n n0:Nat}{Shun:uam}{M a8:c7}{w w0:aL}{f:uaj}{a:Act}{k:fC}{cs:dZ}{N:Nat}{L Q K':bJ}{ops:du}{S:oc}
def auN{id:Nat}(hC:(c8 P).Good)(V:P.follows .mixedOrders=true)(hf:ll P f)(hk:(Item.inRegion ops []::k).all (gI P)=true)(aG:∀s F,L s=some F->F.ok n0)(J:∀s F,Q s=some F->F.ok n0/\∀p∈S.j1,lu p.2.1 F)(hZ:KE ops S=true)(UR:qg L ops.toList=true)(g:qg Q ops.toList=true){c:Oper}{d:Nat}{gf:uaj}{D:Func}{gH:Code}{args:uav}{ats:uar}(l:ops[S.g]?=some c)(B:c.op=.call {callee:=.value (.func gf),args,argTypes:=ats})(U:P.funcs[gf]?=some D)(lG:(D.name== "runtime.NumGoroutine")=false)(hb:D.body=some gH)(en:c.guard=none)(hn:n+16*d<=200){iV:Tmp}(z:c.dst=some iV){dS:a5}{gY:bJ}(hq:tn (ae P true) N n0 ops S L Q dS (λE=>∀a M w Shun,Home O P M Shun w->af N E a w->aM (b9 M) a.tmps a.tmps->gJ O P Post gf (args.map a.eval) M w d (λu _ w'=>dS.R w' u/\cS M w w')) ops.toList 0 (λ_=>none) gY K')(AT:S.j1=[]/\gY=L\/gY=Q)(H:Held O P a8 w0 n0 a M w Shun)(h0:af N L a w)(ov:af N Q a w)(iO:∀a M' w' m y,af N K' a w'->m<=n+16*d->Held O P a8 w0 n0 a M' w' y->bU P Post m y 0 (aY ((base f).at a (.inRegion ops []::k)) cs) w'):
 bU P Post n Shun 0 (aY ((base f).at a (.code (.region id ops true)::k)) cs) w:=by
 obtain⟨c0,h1,h2⟩:=yQ.all hq;have b:=mA.of (K:=Q) hZ UR g g;have c6:∀(j:Nat) o,ops[j]?=some o->_:=λj o R=>h1 j o AF;simp only[vbr]at c6;have US:∀j,j<ops.size->(c0 j).ok n0:=λj hj=>by obtain⟨d',-,-,q,-⟩:=c6 j _ (vao hj);exact q
 obtain⟨auO,x,T,-,-,C⟩:=c6 S.g c l;unfold Bq at C;unfold rm at x;simp only[b.g.2]at C x;rw[z]at x;cases x;obtain⟨-,fd,iD⟩:_/\_/\c0 S.g=dS:=C.resolve_right λh=>absurd rfl h.1;refine apA hC V hf hk S.g l B U lG hb en hn (I:=mC N ops S L Q c0) (λau=>MN aG (λs F e=>(J s F e).1) US) z (λau a w h=>by rw[h.size];exact T) (n7:=dS.R) (λau a w h=>h.len) H (mC.start h0 ov) ?_ ?_ ?_ ?_
 .intro au a W i o h hd hW X lD R r;refine h7 (h.step b (λs F e=>(J s F e).2) c6 h.He X hW lD R r) λa1 w1⟨bj,bm,Y⟩=>⟨rfl,?_,bm,Y⟩;rcases bj with⟨d',v,-,rfl⟩|rfl
  .rw[put_defers];exact hd
  .exact hd
 .intro au a M w Shun t h A r;exact fd a M w Shun t.gn (h.env b h.He l A r) t.all
 .intro au a w u h A r hu;exact h.put b l z b.g.2 T A (vaa _ _) (by rw[iD];exact hu)
 .intro au a M' w' m y h hr Z t;exact iO a M' w' m y (h.dN b h.He hr (λs F e=>by rcases AT with⟨k1,rfl⟩|rfl;exact .inr ⟨k1,e⟩;exact .inl e) h2) Z t
end
end
end bc
namespace bc
def Ph{l:uad}{n:Nat}(h:l.length=n+1):∃x a,l=x::a/\a.length=n:=by cases l<;>grind
section
open Conc ConcM RowKit az bo cF c3 lK
variable{O:gW}
section
variable{P:cf}{Post:uab}{n:Nat}{Shun:uam}{M:c7}{w:aL}{f:uaj}{a b:Act}{k k':fC}{cs:dZ}{n0:Nat}{a8:c7}{w0:aL}
theorem mS.act{D:fv}(hd:D.d=cs.length){g:uai}(h:mS P D (aY ((base f).at a k) cs) g):∃b,g=aY ((base f).at b k) cs/\iE D a b:=by
 generalize c:aY ((base f).at a k) cs=g0 at h;cases h with
 |same g e=>grind[aY]
 |hL h v=>cases c;obtain⟨b,rfl,d⟩:=fc.act h;exact⟨b,U,d⟩
 |under a h=>cases c;have:=h.lt;omega
def K0(m:(c8 P).Good)(hF:P.follows .rangeFuncRecover=true)(x:ll P f){D:fv}(hd:D.d=cs.length)(v:A3 P D f)(A:iE D a b)(sf:k.all (im D)=true)(H:Held O P a8 w0 n0 a M w Shun)(hk:k.all (gI P)=true)(E:k'.all (gI P)=true){I J:uaf}(z:qe n0 I)(B:qe n0 J)(h0:I a w)(hrun:∀W,n0<=W.heap.size->I a W->bO (ae P true) k k' (λa1 w1=>a1.defers=[]/\J a1 w1/\Below n0 W w1) a W)(C:∀a' d M' w',Held O P a8 w0 n0 a' M' w' Shun->iE D a' d->J a' w'->bU P Post n Shun 0 (aY ((base f).at d k') cs) w'):
 bU P Post n Shun 0 (aY ((base f).at b k) cs) w:=by
 refine Tf m hF (D:=D) H.gn (f:=f) (cs0:=[]) (bs:=cs) (g:=aY ((base f).at b k) cs) AX (.hL (A.Tg f k) (v.be sf a) cs hd.symm _ _) (JQ m x H.all H.defers hk) .nil ⟨U,U⟩ (R:=λr cse c l=>cse=[]/\∃a1,r=(base f).at a1 k'/\a1.defers=[]/\J a1 l/\∃T,Below n0 {c with tape:=T} l) (λc e T=>?_) ?_
 .obtain⟨a1,w1,⟨q,p,j⟩,o⟩:=hrun {c with tape:=T} Ix (z _ _ _ _ _ (H.gn.kX e T) H.all h0) (base f) [eS f];grind
 .rintro ρ r cse c l K F w' g' e ⟨rfl,a1,rfl,t,q,T,p⟩ u h i s;cases h;obtain⟨a',rfl,j,o⟩:=JR t E u;obtain⟨d,rfl,y⟩:=mS.act hd s;exact C a' d (qa ρ) w' (H.next e i p (i.all j) o) y (B _ _ _ _ _ (i.kX H.size) j q)
variable{ops:du}{i:Nat}{rest:e8}{o:Oper}
theorem iE.put{D:fv}(h:iE D a b){d:Tmp}(e:D.T d=false)(hK:D.K d=false)(u:Value):iE D (a.put (some d) u) (b.put (some d) u):=by
 refine⟨by rw[fo,fo];exact h.size,λi hi=>?_,λi v hi hv=>?_,λi hi=>?_,by rw[put_defers,put_defers];exact h.defers⟩
 .simp[Act.put,vak,h.size,h.same i hi]
 .have c:d≠i:=AF;simp[Act.put,c]at hv;exact h.gone i v hi hv
 .have c:d≠i:=AF;simp[Act.put,c];exact h.kept i hi
theorem iE.eval{D:fv}(h:iE D a b){x:uap}(c:A0 D x=true):b.eval x=a.eval x:=by
 cases x with
 |tmp t=>
  have ht:D.T t=false:=by grind[A0]
  simp[Act.eval,h.same t ht]
 | _=>rfl
structure K1(P:cf)(f:uaj)(ops:du)(k:fC)(D:Nat->fv):Prop where
 d:∀n,(D n).d=n
 fn:∀n,A3 P (D n) f
 ops:∀n,ops.all (td (D n) ops)=true
 items:∀n,k.all (im (D n))=true
 aU:∀n i,(D n).T i=true->(D n).K i=true
 follows:P.follows .rangeFuncRecover=true
 one:∀n m i,((D n).T i=(D m).T i/\(D n).K i=(D m).K i/\(D n).V i=(D m).V i)
def iE.any{D:Nat->fv}(h:K1 P f ops k D){n:Nat}(c:iE (D n) a b)(m:Nat):iE (D m) a b:=
 ⟨c.size,λi hi=>c.same i ((h.one n m i).1.trans hi),λi v hi hv=>c.gone i v ((h.one n m i).1.trans hi) hv,λi hi=>(c.kept i ((h.one n m i).2.1.trans hi)).trans (h.one n m i).2.2,c.defers⟩
def axe{d:Nat}{g:uaj}{s:Func}{gH:Code}{args:uav}{ats:uar}(r:o.op=.call {callee:=.value (.func g),args,argTypes:=ats})(hg:P.funcs[g]?=some s)(C:(s.name== "runtime.NumGoroutine")=false)(j:s.body=some gH)(hn:n+16*d<=200)(K:ll P f){D:Nat->fv}(c:K1 P f ops k D)(l:iE (D cs.length) a b)(H:Held O P a8 w0 n0 a M w Shun)(hk:(Item.inRegion ops []::k).all (gI P)=true)(v:ops[i]?=some o)(V:o.guard=none){h:Tmp}(E:o.dst=some h/\h<a.tmps.size)(B:∀n,lK.i7 (D n) o=true){I J:uaf}{n7:uax}(N:qe n0 I)(h0:I a w)(F:∀k,gJ O P Post g (args.map a.eval) M (w.at k) d (λu _ w'=>n7 w' u/\cS M w w'))(T:∀u w',I a w'->n7 w' u->J (a.put (some h) u) w')(W:∀a' z M' w' p q,p<=n+16*d->Held O P a8 w0 n0 a' M' w' q->iE (D cs.length) a' z->J a' w'->bU P Post p q 0 (aY ((base f).at z (.inRegion ops rest::k)) cs) w'):
 bU P Post n Shun 0 (aY ((base f).at b (.inRegion ops (i::rest)::k)) cs) w:=by
 simp only[vbi,vaf]at hk;have L:∀n,(D n).T h=false:=λn=>by simp_all[lK.i7,Ta]
 have U:args.map b.eval=args.map a.eval:=Array.map_congr_left λx Y=>l.eval (by
  have:=B cs.length;simp only[lK.i7,vaf]at this;grind[Array.all_eq_true_iff_forall_mem,Op.operands,Call.operands])
 have hK:(D cs.length).K h=false:=by have:=van.1 (c.ops cs.length) o (vbe v);simp_all[td,Tb]
 refine X9 r hg C j U hn H.gn ⟨K,.inr ⟨D,a,λm=>l.any c m,H.all,c.d,c.fn,c.ops,c.items,λn Z e=>?_,c.aU,c.follows⟩,by rw[l.defers];exact H.defers,hk.1,hk.2,⟨h,AF,by rw[l.size];grind⟩⟩ v (vB V _) F ?_
 .grind
 rintro u M' w' p q S R y Q A ⟨X,t⟩;rw[E.1];refine W _ _ M' w' p q S ⟨R,λb j=>y b (H.sub b j),H.since.trans A,H.keep.trans (λb j=>H.sub b j.1) t,?_,Gj,vad H.size A.size⟩ (l.put (L _) hK u) (T u w' (N _ _ _ _ _ (t.kX H.gn) H.all h0) X);exact(H.all.mono (qd y)).set Q _
end
section
variable{D D':fv}
def VO(c:D.T=D'.T)(b:D.K=D'.K)(a:D.sl=D'.sl):td D=td D':=by cases D;cases D';simp only at c b a;subst c;subst b;subst a;rfl
def axf(a:D.T=D'.T):A0 D=A0 D':=by cases D;cases D';simp only at a;subst a;rfl
def qB(g:D.T=D'.T)(j:D.K=D'.K)(h:D.sl=D'.sl):∀c,pm D c=pm D' c:=by intro c;induction c with|region id ops d=>simp[pm,VO g j h]|seq a b f e=>grind[pm]|cond c a b f e=>simp[pm,f,e,axf g]|block id c i=>grind[pm]|loop c i=>grind[pm]| _=>rfl
def axg(d:D.T=D'.T)(b:D.K=D'.K)(a:D.sl=D'.sl):∀x,im D x=im D' x:=by intro x;cases x with|code c=>exact qB d b a c|inLoop c=>exact qB d b a c|inRegion ops l=>simp[im,VO d b a]| _=>rfl
def vr(c:D.T=D'.T)(b:D.K=D'.K)(a:D.sl=D'.sl)(l:fC):l.all (im D)=l.all (im D'):=by rw[funext (axg c b a)]
