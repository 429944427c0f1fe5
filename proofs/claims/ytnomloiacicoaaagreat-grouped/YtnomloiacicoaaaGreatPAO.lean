import Derived.Test.YtnomloiacicoaaaGreatPAJ
set_option linter.all false
set_option maxRecDepth 100000
set_option maxHeartbeats 16000000
namespace Go.Proofs.YtnomloiacicoaaaGreat
open Tryz
namespace aV
open Conc ConcM av bj cV dx
abbrev dr(P:cE):cM:=da P true
section
variable{ρ:Ren}
def abS(h1:∀a b d,ρ.rel a b->ρ.rel a d->b=d){a b c}(h:dR ρ a b)(k:dR ρ a c):b=c:=by obtain⟨n,m,l⟩:=b;obtain⟨j,i,e⟩:=c;obtain⟨g,j2,f⟩:=h;obtain⟨aZ,a3,q3⟩:=k;grind
def Oc(h1:∀a b o,ρ.rel a b->ρ.rel a o->b=o){x y}(h:au ρ x y):∀{z:Value},au ρ x z->y=z:=by
 have all:∀{a a':dX},a.size=a'.size->(∀(i:Nat)(v v':Value),a[i]?=some v->a'[i]?=some v'->∀{z:Value},au ρ v z->v'=z)->∀{b:dX},a.size=b.size->(∀(i:Nat)(v v':Value),a[i]?=some v->b[i]?=some v'->au ρ v v')->a'=b:=by
  intro a a' hs e b m k;apply Array.ext
  .grind
  .intro i hi E;have F:i<a.size:=hs▸hi;exact e i a[i] a'[i] AA AA (k i _ _ AA AA)
 induction h with
 |bool b=>intro z k;cases k;rfl
 |int k n=>intro z k;cases k;rfl
 |string s=>intro z k;cases k;rfl
 |l_=>intro z k;cases k;rfl
 |ptr r=>intro z k;cases k with|ptr d=>rw[abS h1 r d]
 |iH l c=>intro z k;cases k;rfl
 |slice l c r=>intro z k;cases k with|slice _ _ d=>rw[abS h1 r d]
 |p8=>intro z k;cases k;rfl
 |map r=>intro z k;cases k with|map d=>grind
 |p9=>intro z k;cases k;rfl
 |func B C m _ _ A w=>intro z k;cases k with|func j g D u q=>rw[all C A g u,all m w D q];cases B with|func f=>cases j;rfl|yield r=>cases j with|yield d=>grind
 |nilFunc=>intro z k;cases k;rfl
 |iface t _ e=>intro z k;cases k with|iface _ k'=>grind
 |nilIface=>intro z k;cases k;rfl
 |agg hs _ e=>intro z k;cases k with|agg p k'=>grind
 |tuple hs _ e=>intro z k;cases k with|tuple p k'=>grind
end
def fB(P:cE):Item->Bool
 | .code c| .inLoop c| .inScope c=>ky P true c
 | .inBlock _=>true
 | .inRegion ops _=>ops.all λo=>nb P true o.op
 | _=>false
variable{P:cE}
def Ur(a:(dr P).Good){c}(h:ky P true c=true):(dr P).ew c:=(a.sc c).2 ((Zz P true true c).trans h)
def aqs(a:(dr P).Good){ρ x}(h:fB P x=true):td (dr P) ρ x x:=by cases x with|code c=>exact .code (Ur a h)|inLoop c=>exact .inLoop (Ur a h)|inScope c=>exact .inScope (Ur a h)|inBlock id=>exact .inBlock id|inRegion ops l=>exact .inRegion (λo b=>(Zy P true true o.op).trans (vau.1 h o b)) l| _=>cases h
theorem Us(a:(dr P).Good){ρ}:∀{l:uab},l.all (fB P)=true->n6 (dr P) ρ l l
 | [],_=>.nil
 |x::l,h=>by simp only[vbu,vag]at h;exact .cons (aqs a h.1) (Us a h.2)
theorem abT{ρ}:∀{l a:uab},l.all (fB P)=true->n6 (dr P) ρ l a->a=l
 | [],_,_,h=>by cases h;rfl
 |x::l,_,hk,h=>by simp only[vbu,vag]at hk;cases h with|cons b c=>rw[abT hk.2 c];cases b<;>first|rfl|cases hk.1
def jQ(P:cE)(f:uak):Prop:=∃fn c,(ae P true).funcs[f]?=some fn/\fn.body=some c
def Ut(g:(dr P).Good){ρ:Ren}{D:Option gD.fT}{e:Bool}{f:uak}(b:jQ P f){a:Act}(d:aJ ρ a.tmps a.tmps)(hd:a.defers=[]){k:uab}(hk:k.all (fB P)=true)(c:D=none\/e=false:=by first|exact .inl Y|exact .inr Y):eB (dr P) D ρ e ((base f).at a k) ((base f).at a k):=
 ⟨Y,b,Se c d,Us g hk,by show qV ρ a.defers a.defers;rw[hd];exact .nil,.run,Y,.inl Y,.none⟩
variable{bD:Frame}
def Uu{ρ:Ren}{D:Option gD.fT}{e:Bool}{f:uak}{a:Act}(hd:a.defers=[]){k:uab}(hk:k.all (fB P)=true)(h:eB (dr P) D ρ e ((base f).at a k) bD):∃a':Act,bD=(base f).at a' k/\a'.defers=[]:=by obtain⟨fn,tmps,todo,defers,mode,kind,ro⟩:=bD;obtain⟨h1,_,h3,h4,b,j,c,_,l⟩:=h;have d:todo=k:=abT hk h4;have b:qV ρ a.defers defers:=b;rw[hd]at b;have i:xk ρ .run mode:=j;have g:m_ ρ.rel none ro:=l;cases b;cases i;cases g;refine⟨⟨tmps,[]⟩,?_,Y⟩;subst d;have h1:f=fn:=h1;have c:CallKind.normal=kind:=c;subst h1;subst c;rfl
theorem aqu{ρ:Ren}{e:Bool}{f:uak}{a:Act}(hd:a.defers=[]){k:uab}(hk:k.all (fB P)=true)(h:eB (dr P) none ρ e ((base f).at a k) bD):∃a':Act,bD=(base f).at a' k/\aJ ρ a.tmps a'.tmps/\a'.defers=[]:=by obtain⟨a',rfl,h2⟩:=Uu hd hk h;exact⟨a',Y,h.tmps,h2⟩
structure gW where
 n:Nat
 heap:Array Obj
abbrev ju(M:dL):Nat->Prop:=M
abbrev b7(M:dL):Ren:=dp M (ju M)
structure Home(O:gW)(P:cE)(M:dL)(Shun:ual)(w:aR):Prop where
 cl:fG (dr P) M (ju M) w
 ze:∀g,g<=P.globals.size->M g
 sh:∀b,M b\/w.heap.size<=b->∀l,fy l=some b->¬Shun l
 new:∀b,M b->b≠0->O.n<=b
 ob:O.n<=w.heap.size
 old:∀b,0<b->b<O.n->w.heap[b]?=O.heap[b]?
 so:∀b,b<O.n->∀l,fy l=some b->¬Shun l
structure nu(w w':aR):Prop where
 size:w.heap.size<=w'.heap.size
 later:OsLater w.os w'.os
 output:w'.output=w.output
 tape:w'.tape=w.tape
theorem nu.refl w:nu w w:=⟨vac _,.refl _,Y,Y⟩
theorem nu.trans{a b c}(h:nu a b)(k:nu b c):nu a c:=⟨vad h.size k.size,h.later.trans k.later,k.output.trans h.output,k.tape.trans h.tape⟩
def qD(ρ:Ren):Nat->Prop:=λb=>∃a,ρ.rel a b
variable{fr:Frame}
section
variable{O:gW}{Post:hV}{n:Nat}{Shun:ual}{M:dL}{w:aR}
theorem Home.at(h:Home O P M Shun w)k:Home O P M Shun (w.at k):=⟨h.cl,h.ze,h.sh,h.new,h.ob,h.old,h.so⟩
def Home.lt(h:Home O P M Shun w){b}(a:M b):b<w.heap.size:=by obtain⟨o,h1,_⟩:=h.cl b a;grind
structure Behind(O:gW)(P:cE)(M:dL)(Shun:ual)(w:aR)(ρ:Ren)(cj w':aR):Prop where
 rel:∃S,e_ (dr P) S ρ cj w'
 le:Ren.le (b7 M) ρ
 fC:Home O P (qD ρ) Shun w'
 since:nu w w'
 old:∀a b,ρ.rel a b->(a=b/\M b)\/w.heap.size<=b
def Behind.same{ρ c w'}(h:Behind O P M Shun w ρ c w'){v v'}(hv:au (b7 M) v v)(b:au ρ v v'):v'=v:=by obtain⟨S,a⟩:=h.rel;exact(Oc a.one (hv.mono h.le) b).symm
def Behind.mem{ρ c w'}(h:Behind O P M Shun w ρ c w'){b}(a:M b):qD ρ b:=⟨b,h.le.1 b b ⟨Y,a⟩⟩
def Behind.val{ρ d w'}(_:Behind O P M Shun w ρ d w'){v v'}(b:au ρ v v'):au (b7 (qD ρ)) v' v':=au.right (σ:=b7 (qD ρ)) (λa _ c=>⟨Y,a,c⟩) b
def Behind.all{ρ d w'}(_:Behind O P M Shun w ρ d w'){v v'}(b:aJ ρ v v'):aJ (b7 (qD ρ)) v' v':=aJ.right (σ:=b7 (qD ρ)) (λa _ c=>⟨Y,a,c⟩) b
theorem Behind.carry{ρ a w'}(h:Behind O P M Shun w ρ a w'):Carry ρ a w':=by obtain⟨S,b⟩:=h.rel;exact b.carry
theorem Home.cell(h:Home O P M Shun w){a v}(j:M a.block)(hv:w.cell? a=some v):au (b7 M) v v:=by
 obtain⟨c,e,fr,g,k,d⟩:=xd hv;obtain⟨o,f,b⟩:=h.cl _ j;rw[g]at f;cases f;rcases b with b|b
 .cases b with|cells _ i _=>exact i.get _ _ _ d d
 .exact b.elim
theorem Home.laid(h:Home O P M Shun w){b}(g:iy (dr P) M (ju M) w b){a v}(f:M a.block)(hv:w.cell? a=some v):b.cell? a=some v:=by obtain⟨c,e,fr,d,k,j⟩:=xd hv;obtain⟨i,h4,_⟩:=g.cells h.cl f d;grind[n2]
def Behind.kept{ρ e d w'}(h:Behind O P M Shun w ρ d w')(f:Home O P M Shun w)(i:iy (dr P) M (ju M) w e){a v}(b:M a.block)(hv:w.cell? a=some v)(hk:e.cell? a=some v->d.cell? a=some v):w'.cell? a=some v:=by obtain⟨v2,c,g⟩:=h.carry a a v ⟨h.le.1 _ _ ⟨Y,b⟩,Y,Y⟩ (hk (f.laid i b hv));rw[h.same (f.cell b hv) g]at c;exact c
def Behind.keeps{ρ f d w'}(h:Behind O P M Shun w ρ d w')(g:Home O P M Shun w)(i:iy (dr P) M (ju M) w f)(hk:bp f d):Carry (b7 M) w w':=by
 rintro a a' v ⟨⟨h1,hd⟩,h2,h3⟩ hv;have e:a=a':=by obtain⟨x,y,z⟩:=a';obtain⟨p,q,r⟩:=a;grind
 subst e;refine⟨v,h.kept g i hd hv λx=>?_,g.cell hd hv⟩;obtain⟨b,o,sp⟩:=a;obtain⟨_,_,_,_,c,_⟩:=xd hv;simp only at c;subst c;exact hk b o v x
def Home.next(c:Home O P M Shun w){X Y}(f:cV.Left X Y)(l:X.w=w/\X.mine=ju M){ρ S m k}(j:e_ (dr P) S ρ m (Y.w.at k))(e:Ren.le (b7 M) ρ)(hold:∀a b,ρ.rel a b->(b7 M).rel a b\/w.heap.size<=b):Home O P (qD ρ) Shun (Y.w.at k):=by
 obtain⟨rfl,n⟩:=l;have kept:∀b,b<X.w.heap.size->¬ju M b->Y.w.heap[b]?=X.w.heap[b]?:=λb h1 h2=>f.kept b h1 AA;refine⟨j.closed _,λg hg=>⟨g,e.1 g g ⟨rfl,c.ze g hg⟩⟩,λb d=>?_,λb⟨a,i⟩ d=>?_,vad c.ob f.size,λb h0 d=>?_,c.so⟩
 .rcases d with⟨a,i⟩|d
  .rcases hold a b i with h|h
   .exact c.sh b (.inl h.2)
   .exact c.sh b (.inr h)
  .exact c.sh b (.inr (vad f.size d))
 .rcases hold a b i with h|h
  .exact c.new b h.2 d
  .exact vad c.ob h
 .refine(kept b (vak d c.ob) λx=>?_).trans (c.old b h0 d);have:=c.new b x AQ;omega
def Od(v:(dr P).Good)(j:Home O P M Shun w){f:uak}{D:Option gD.fT}{i:Frame}{cs0 Kk bs:hH}(z:eB (dr P) D (b7 M) cs0.isEmpty fr i)(m:jm (dr P) D (b7 M) cs0 Kk)(x:kz fr cs0){R:Frame->List Frame->aR->aR->Prop}(hrun:∀e,iy (dr P) M (ju M) w e->∀T,∃c cse d,Steps (ae P true) (lone fr (cs0++[fL f]) {e with tape:=T}) (lone c (cse++[fL f]) d)/\R c cse e d)(y:∀ρ c cse e d bD l w',iy (dr P) M (ju M) w e->R c cse e d->eB (dr P) D ρ cse.isEmpty c bD->jm (dr P) D ρ cse l->Behind O P M Shun w ρ d w'->bT P Post n Shun 0 (a4 bD (l++bs)) w'):
 bT P Post n Shun 0 (a4 i (Kk++bs)) w:=by
 obtain⟨e,q⟩:=Jm (dr P) M (ju M) w;have t:=Zq (C:=(dr P)) (f:=f) (base:=bs) (w0:=e) (q2:=w) (K:=λ_=>False) (yA:=ju M) (R:=λc cse d=>R c cse e d) v z m x (q.rel j.cl j.ze AA) (λb h=>h) (λa b h=>.inr h.2)
  (λT=>by obtain⟨c,cse,d,⟨k,hk⟩,p⟩:=hrun e q T;exact⟨k,c,cse,d,hk,p⟩) true
 refine Dz (Uq t rfl (λb u=>j.lt AA) (λb u=>j.sh b AA) ?_);rintro Y ⟨ρ,c,cse,d,T,p,ht⟩ g;obtain⟨bD,l,hg,s,o⟩:=ht.frames;rw[hg];refine .stop λk=>y ρ c cse e d bD l (Y.w.at k) q p s o ?_;have r:=ht.world.rely (w':=Y.w.at k) (bound:=0) (⟨λ_ _=>rfl,vac _,rfl⟩:me (λ_=>False) Y (Y.w.at k)) ht.dom AA;exact⟨⟨_,r⟩,ht.le,j.next g ⟨rfl,rfl⟩ r ht.le ht.old,⟨g.size,g.os,g.output,g.tape⟩,λa b h=>(ht.old a b h).imp id id⟩
end
open gD
structure jv(D:fT)(a b:Act):Prop where
 size:b.tmps.size=a.tmps.size
 same:∀i,D.T i=false->b.tmps[i]?=a.tmps[i]?
 gone:∀i v,D.T i=true->a.tmps[i]?=some v->v=undef
 kept:∀i,D.K i=true->b.tmps[i]?=D.V i
 defers:b.defers=a.defers
def DC(P:cE)(D:fT):Prop:=∀t,D.sl t=true->∃e,P.underlying t=some (.slice e)
section
variable{P:cE}{D:fT}{f:uak}{a b:Act}{k:uab}{ρ:Ren}
def jv.rel(g:(dr P).Good)(d:jQ P f)(h:jv D a b)(hs:DC P D)(e:aJ ρ a.tmps a.tmps)(hd:a.defers=[])(hk:k.all (fB P)=true)(c:k.all (fK D.1)=true):eB (dr P) (some D) ρ true ((base f).at a k) ((base f).at b k):=
 ⟨Y,d,⟨h.size.symm,λi hi v v' x y=>e.get i v v' x ((h.same i hi).symm.trans y),λi hi v=>h.gone i v hi,h.kept,c,hd,hs,Y⟩,Us g hk,by show qV ρ a.defers b.defers;rw[h.defers,hd];exact .nil,.run,Y,.inl Y,.none⟩
def abV(hd:a.defers=[])(hk:k.all (fB P)=true)(h:eB (dr P) (some D) ρ true ((base f).at a k) bD):∃a' b,bD=(base f).at b k/\aJ ρ a.tmps a'.tmps/\jv D a' b/\a'.defers=[]:=by
 obtain⟨b,rfl,h2⟩:=Uu hd hk h;have r:=h.tmps.uh Y Y;refine⟨⟨b.tmps.mapIdx λi v=>if D.T i then undef else v,[]⟩,b,Y,⟨by simpa[Frame.at]using r.size,λi v v' x y=>?_⟩,⟨AS,λi hi=>?_,λi v hi hv=>?_,r.kept,h2⟩,Y⟩
 .simp only[Array.getElem?_mapIdx,vai]at y;obtain⟨u,d,rfl⟩:=y;split
  .rename_i c;rw[r.gone i c v x];exact .undef ρ
  .rename_i c;exact r.same i I4 v u x d
 .simp only[Array.getElem?_mapIdx,hi];simp
 .simp only[Array.getElem?_mapIdx,hi,vai]at hv;grind
end
section
variable{O:gW}
section
variable{P:cE}{Post:hV}{n:Nat}{Shun:ual}{M:dL}{w:aR}
theorem jR(a:Act)d v:(a.put d v).tmps.size=a.tmps.size:=by cases d<;>simp[Act.put]
theorem put_defers(a:Act)d v:(a.put d v).defers=a.defers:=by cases d<;>rfl
structure aqv(P:cE)(M:dL)(aI:Act)(aC:fF)(aL:Nat)(aK:uab)(D:fT)(cG:Act):Prop where
 fd:jv D cG aI
 all:aJ (b7 M) cG.tmps cG.tmps
 fn:DC P D
 items:∀l,(Item.inRegion aC l::aK).all (fK D.1)=true
 dst:∀d,(aC[aL]?).bind (·.dst)=some d->D.T d=false
 aX:∀i,D.T i=true->D.K i=true
structure Bl(P:cE)(M:dL)(gX:uak)(aI:Act)(aC:fF)(aL:Nat)(aK:uab):Prop where
 known:jQ P gX
 tmps:aJ (b7 M) aI.tmps aI.tmps\/∃D cG,aqv P M aI aC aL aK D cG
 defers:aI.defers=[]
 ops:fB P (.inRegion aC [])=true
 items:aK.all (fB P)=true
 dst:∃d,(aC[aL]?).bind (·.dst)=some d/\d<aI.tmps.size
def fZ(O:gW)(P:cE)(Post:hV)(f:uak)(args:dX)(M:dL)(w:aR)(d:Nat)(V:ubf):Prop:=
 ∀n Shun,n+16*d<=200->Home O P M Shun w->∀gX aI aC aL aO aK csZ,Bl P M gX aI aC aL aK->
  (∀u M' w' n' bm,n'<=n+16*d->Home O P M' bm w'->(∀b,M b->M' b)->au (b7 M') u u->nu w w'->V u M' w'->
   bT P Post n' bm 0 (a4 ((base gX).at (aI.put ((aC[aL]?).bind (·.dst)) u) (.inRegion aC aO::aK)) csZ) w')->
  bT P Post n Shun 0 (a4 (Frame.enter P f args .normal) ((base gX).at aI (.inRegion aC (aL::aO)::aK)::csZ)) w
def tJ{M M'}(h:∀b,M b->M' b):Ren.le (b7 M) (b7 M'):=⟨λ_ b k=>⟨k.1,h b k.2⟩,λb k=>h b k⟩
theorem Bl.mono{M'}(c:∀b,M b->M' b){a aI aC aL aK}(h:Bl P M a aI aC aL aK):Bl P M' a aI aC aL aK:=
 ⟨h.known,h.tmps.imp (λx=>x.mono (tJ c)) (λ⟨D,d,x⟩=>⟨D,d,x.fd,x.all.mono (tJ c),x.fn,x.items,x.dst,x.aX⟩),h.defers,h.ops,h.items,h.dst⟩
def aqw(I:(dr P).Good)(aN:Home O P M Shun w)(cu:∀D,eB (dr P) D (b7 M) false fr fr){g:uak}{aI:Act}{aC:fF}{aL:Nat}{aO:uac}{aK:uab}{csZ:hH}(p:Bl P M g aI aC aL aK){iC:ubq}(hrun:∀m,iy (dr P) M (ju M) w m->∀T,∀c cs,∃v q,iC m v q/\Steps (ae P true) (lone fr (c::cs) {m with tape:=T}) (lone (c.finish v) cs q))(di:∀ρ m v q u w',iy (dr P) M (ju M) w m->iC m v q->au ρ v u->Behind O P M Shun w ρ q w'->bT P Post n Shun 0 (a4 ((base g).at (aI.put ((aC[aL]?).bind (·.dst)) u) (.inRegion aC aO::aK)) csZ) w'):
 bT P Post n Shun 0 (a4 fr ((base g).at aI (.inRegion aC (aL::aO)::aK)::csZ)) w:=by
 obtain⟨d,E,s⟩:=p.dst;have F:∀l,(Item.inRegion aC l::aK).all (fB P)=true:=λl=>by simp only[vbu,vag];exact⟨p.ops,p.items⟩
 have key:∃(D:Option fT)(b:Act),aJ (b7 M) b.tmps b.tmps/\b.defers=[]/\b.tmps.size=aI.tmps.size/\AI D true ((base g).at b (.inRegion aC (aL::aO)::aK))/\eB (dr P) D (b7 M) true ((base g).at b (.inRegion aC (aL::aO)::aK)) ((base g).at aI (.inRegion aC (aL::aO)::aK))/\
  ∀(ρ:Ren) v a,oN (dr P).P D true ρ ((base g).at (b.put (some d) v) (.inRegion aC aO::aK)) ((base g).at a (.inRegion aC aO::aK))->a.tmps.size=aI.tmps.size/\(∀u,a.tmps[d]?=some u->au ρ v u)/\∀i,i≠d->(∃x y,b.tmps[i]?=some x/\aI.tmps[i]?=some x/\a.tmps[i]?=some y/\au ρ x y)\/a.tmps[i]?=aI.tmps[i]?:=by
  rcases p.tmps with B|⟨D,b,j⟩
  .refine⟨none,aI,B,p.defers,Y,(λ_ h=>I5),Ut I p.known B p.defers (F _),λρ v a h=>?_⟩;have h:aJ ρ (aI.put (some d) v).tmps a.tmps:=h;have hsz:a.tmps.size=aI.tmps.size:=by rw[<-h.size,jR]
   refine⟨hsz,λu z=>h.get d v u (by simp[Act.put,s]) z,λi hi=>?_⟩;by_cases A:i<aI.tmps.size
   .refine .inl ⟨aI.tmps[i],a.tmps[i]'(hsz▸A),AA,AA,AA,h.get i _ _ ?_ AA⟩;simp[Act.put,Ne.symm hi,A]
   .exact .inr AA
  .have h0:b.defers=[]:=by rw[<-j.fd.defers];exact p.defers
   have hs:=j.fd.size;have N:=j.dst d E;refine⟨some D,b,j.all,h0,hs.symm,λUv e _ ops i r k K o ho=>?_,j.fd.rel I p.known j.fn j.all h0 (F _) (j.items _),λρ v a h=>?_⟩
   .cases e;have K:Item.inRegion aC (aL::aO)::aK=.inRegion ops (i::r)::k:=K;cases K;have:o.dst=some d:=by simpa[ho]using E
    simp[Ct,this,N]
   .have r:=h.uh Y Y;have rs:(b.put (some d) v).tmps.size=a.tmps.size:=r.size;rw[jR]at rs;have same:∀i,D.T i=false->∀x y,(b.put (some d) v).tmps[i]?=some x->a.tmps[i]?=some y->au ρ x y:=r.same;refine⟨rs.symm.trans hs.symm,λu z=>same d N v u (by simp[Act.put,hs▸s]) z,λi hi=>?_⟩;cases C:D.T i with
    |true=>exact .inr ((r.kept i (j.aX i C)).trans (j.fd.kept i (j.aX i C)).symm)
    |false=>
     by_cases A:i<b.tmps.size
     .refine .inl ⟨b.tmps[i],a.tmps[i]'(rs▸A),AA,?_,AA,same i C _ _ ?_ AA⟩
      .rw[j.fd.same i C];grind
      .simp[Act.put,Ne.symm hi,A]
     .exact .inr AA
 obtain⟨D,b,Z,X,k3,W,fo,hY⟩:=key;refine Od I aN (f:=g) (D:=D) (cs0:=[(base g).at b (.inRegion aC (aL::aO)::aK)]) (Kk:=[(base g).at aI (.inRegion aC (aL::aO)::aK)]) (bs:=csZ) (cu D) (.cons fo W .nil) ⟨Y,Y⟩
  (R:=λS cse m q=>cse=[]/\∃v,S=(base g).at (b.put (some d) v) (.inRegion aC aO::aK)/\iC m v q) (λm J T=>?_) ?_
 .obtain⟨v,q,h1,h2⟩:=hrun m J T ((base g).at b (.inRegion aC (aL::aO)::aK)) [fL g];grind[Frame.finish_at]
 .rintro ρ S cse m q bD dz w' J ⟨rfl,v,rfl,hv⟩ L H Q;cases H;obtain⟨a,rfl,h2⟩:=Uu (by rw[put_defers];exact X) (F _) L;obtain⟨hsz,z,V⟩:=hY ρ v a L.tmps;have U:a.tmps[d]?=some (a.tmps[d]'(hsz▸s)):=AA;refine(show a=aI.put (some d) _ from ?_)▸E▸di ρ m v q (a.tmps[d]'(hsz▸s)) w' J hv (z _ U) Q;obtain⟨t,ds⟩:=a;show _=(⟨aI.tmps.setIfInBounds d _,aI.defers⟩:Act);rw[p.defers,<-h2];congr 1
  refine vcm λi=>?_;rw[vam];by_cases hi:i=d
  .subst hi;rw[vca Y,vca s];exact U
  .rw[vby (Ne.symm hi)];rcases V i hi with⟨x,y,e1,e2,e3,e4⟩|e
   .rw[Q.same (Z.get i x x e1 e1) e4]at e3;exact e3.trans e2.symm
   .exact e
def wp_move(e:(dr P).Good)(m:Home O P M Shun w){f:uak}(j:jQ P f){a:Act}(l:aJ (b7 M) a.tmps a.tmps)(hd:a.defers=[]){k k':uab}(hk:k.all (fB P)=true)(t:k'.all (fB P)=true){cs:hH}{Q:aR->Act->aR->Prop}(hrun:∀c,iy (dr P) M (ju M) w c->∀T,∀(b:Frame)(cs:hH),∃a1 w1,Q c a1 w1/\a1.defers=[]/\Steps (ae P true) (lone (b.at a k) cs {c with tape:=T}) (lone (b.at a1 k') cs w1))(s:∀ρ c a1 w1 a' w',iy (dr P) M (ju M) w c->Q c a1 w1->aJ ρ a1.tmps a'.tmps->a'.defers=[]->Behind O P M Shun w ρ w1 w'->bT P Post n Shun 0 (a4 ((base f).at a' k') cs) w'):
 bT P Post n Shun 0 (a4 ((base f).at a k) cs) w:=by
 refine Od e m (f:=f) (cs0:=[]) (bs:=cs) (Ut e j l hd hk) .nil ⟨Y,Y⟩ (R:=λg cse c h=>cse=[]/\∃a1,g=(base f).at a1 k'/\a1.defers=[]/\Q c a1 h) (λc i T=>?_) ?_
 .obtain⟨a1,w1,h1,h2,h3⟩:=hrun c i T (base f) [fL f];grind
 .rintro ρ g cse c h bD r w' i ⟨rfl,a1,rfl,o,hq⟩ p d q;cases d;grind[aqu]
end
end
end aV
namespace aV
open Conc ConcM av bj cV dx
variable{cA:Func}{gV:Code}
section
variable{O:gW}
def dy(M:dL)(w w':aR):Prop:=∀b c e fr,M b->w.heap[b]?=some (.cells c e fr)->w'.heap[b]?=some (.cells c e fr)
theorem dy.refl M w:dy M w w:=λ_ _ _ _ _ h=>h
theorem dy.trans{M M' a b c}(h:dy M a b)(f:∀b,M b->M' b)(k:dy M' b c):dy M a c:=λx c e fr d e1=>k x c e fr (f x d) (h x c e fr d e1)
def dy.J3{M w w'}(h:∀b,M b->w'.heap[b]?=w.heap[b]?):dy M w w':=λb _ _ _ a e=>(h b a).trans e
theorem dy.cell{M w w'}(h:dy M w w'){a v}(g:M a.block)(hv:w.cell? a=some v):w'.cell? a=some v:=by obtain⟨c,e,fr,f,d,b⟩:=xd hv;exact n2 (h _ _ _ _ g f) d b
section
variable{P:cE}{Post:hV}{n:Nat}{Shun:ual}{M:dL}{w:aR}
theorem dy.carry{w'}(h:dy M w w')(b:Home O P M Shun w):Carry (b7 M) w w':=by
 rintro a a' v ⟨⟨h1,hd⟩,h2,h3⟩ hv;have e:a=a':=by obtain⟨x,y,z⟩:=a';obtain⟨p,q,r⟩:=a;grind
 subst e;exact⟨v,h.cell hd hv,b.cell hd hv⟩
def Uw{ρ}(h1:∀a b c,ρ.rel a b->ρ.rel a c->b=c){x y}(h:aJ ρ x y)(d:aJ ρ x x):y=x:=by
 apply Array.ext
 .exact h.size.symm
 .intro i hi e;exact(Oc h1 (d.get i x[i] x[i] AA AA) (h.get i x[i] y[i] AA AA)).symm
def Behind.aqy{ρ k j w'}(h:Behind O P M Shun w ρ j w')(l:Home O P M Shun w)(v:iy (dr P) M (ju M) w k)(hk:∀b c e z,M b->k.heap[b]?=some (.cells c e z)->j.heap[b]?=some (.cells c e z)):dy M w w':=by
 intro b c e fr a g;obtain⟨m,h4,u⟩:=v.cells l.cl a g;have s:=u a;subst s;have t:=hk b c e _ a h4;obtain⟨S,i⟩:=h.rel;obtain⟨o,o',f,d,p⟩:=i.obj b b (h.le.1 b b ⟨Y,a⟩);rw[t]at f;cases f;cases p with
 |@cells _ x _ _ bD r q=>
  have e1:bD=m:=q.2 Y;subst e1;obtain⟨o2,aZ,a3⟩:=l.cl b a;rw[g]at aZ;cases aZ;rcases a3 with a3|a3
  .cases a3 with|cells _ n _=>rw[Uw i.one r (n.mono h.le)]at d;exact d
  .exact a3.elim
def aqz{ρ q w'}(g:Behind O P M Shun w ρ q w'){a a':Act}(l:aJ (b7 M) a.tmps a.tmps)(hd:a.defers=[])(c:a'.defers=[]){dst v}(h:aJ ρ (a.put dst v).tmps a'.tmps)(n:∀d,dst=some d->d<a.tmps.size):
 ∃u,a'=a.put dst u/\(dst≠none->au ρ v u):=by
 obtain⟨b,x⟩:=a';have c:x=[]:=c;subst c;obtain⟨S,p⟩:=g.rel;cases dst with
 |none=>refine⟨undef,?_,AA⟩;have e:b=a.tmps:=Uw p.one h (l.mono g.le);subst e;obtain⟨t,ds⟩:=a;have hd:ds=[]:=hd;subst hd;rfl
 |some d=>
  have i:=n d Y;have hsz:b.size=a.tmps.size:=by have:=h.size;grind[jR]
  have o:b[d]?=some (b[d]'(hsz▸i)):=AA;refine⟨b[d]'(hsz▸i),?_,λ_=>h.get d _ _ (by simp[Act.put,i]) o⟩;show _=(⟨a.tmps.setIfInBounds d _,a.defers⟩:Act);rw[hd];congr 1
  apply Array.ext
  .grind
  .intro j k f;have s:j<a.tmps.size:=AA;apply van;rw[<-vas k,<-vas f,vam];by_cases r:d=j
   .grind
   .simp[r];have m:au ρ a.tmps[j] b[j]:=h.get j _ _ (by grind[Act.put]) AA;rw[vas k,vas s,g.same (l.get j _ _ AA AA) m]
variable{f:uak}{a:Act}{ops:fF}{i:Nat}{rest:uac}{k:uab}{cs:hH}{o:Oper}
def aqA(t:(dr P).Good)(y:Home O P M Shun w)(s:jQ P f)(l:aJ (b7 M) a.tmps a.tmps)(hd:a.defers=[])(hk:(Item.inRegion ops []::k).all (fB P)=true)(r:ops[i]?=some o)(p:vfe o ops a.tmps=true)(m:∀d,o.dst=some d->d<a.tmps.size){iC:ubq}(hrun:∀c,iy (dr P) M (ju M) w c->∀T,∃v w1,iC c v w1/\((execOp a.eval o).run (ae P true) {c with tape:=T}=.ok (.value v) w1\/((execOp a.eval o).run (ae P true) {c with tape:=T}=.ok .skip w1/\v=undef)))(x:∀ρ c v w1 u w',iy (dr P) M (ju M) w c->iC c v w1->(o.dst≠none->au ρ v u)->Behind O P M Shun w ρ w1 w'->aJ (b7 (qD ρ)) (a.put o.dst u).tmps (a.put o.dst u).tmps->bT P Post n Shun 0 (a4 ((base f).at (a.put o.dst u) (.inRegion ops rest::k)) cs) w'):
 bT P Post n Shun 0 (a4 ((base f).at a (.inRegion ops (i::rest)::k)) cs) w:=by
 simp only[vbu,vag]at hk;refine wp_move t y s l hd (k:=.inRegion ops (i::rest)::k) (k':=.inRegion ops rest::k) IY IY (Q:=λc a1 w1=>∃v,a1=a.put o.dst v/\iC c v w1) (λc j T b cs=>?_) ?_
 .obtain⟨v,w1,e,g⟩:=hrun c j T;refine⟨a.put o.dst v,w1,⟨v,Y,e⟩,by grind[put_defers],.one (step_lone_go ?_)⟩;rw[stepG_op r p];have z:∀v,(b.at a (.inRegion ops (i::rest)::k)).finish v=b.at (a.put o.dst v) (.inRegion ops rest::k):=by grind[Frame.finish_at]
  rcases g with g|⟨g,rfl⟩
  .simp_all[stepG.apply]
  simp_all[stepG.apply]
 .rintro ρ c a1 w1 a' w' j ⟨v,rfl,e⟩ h1 h2 h;obtain⟨u,rfl,q⟩:=aqz h l hd h2 h1 m;exact x ρ c v w1 u w' j e q h (h.all h1)
def aqB(y:(dr P).Good)(j:Home O P M Shun w)(s:jQ P f)(x:aJ (b7 M) a.tmps a.tmps)(hd:a.defers=[])(hk:(Item.inRegion ops []::k).all (fB P)=true)(r:ops[i]?=some o)(p:vfe o ops a.tmps=true){d}(m:o.dst=some d/\d<a.tmps.size){v}(hv:au (b7 M) v v)(hrun:∀c,iy (dr P) M (ju M) w c->∀T,(execOp a.eval o).run (ae P true) {c with tape:=T}=.ok (.value v) {c with tape:=T})(z:∀M' w',(∀b,M b->M' b)->Home O P M' Shun w'->nu w w'->dy M w w'->aJ (b7 M') (a.put (some d) v).tmps (a.put (some d) v).tmps->bT P Post n Shun 0 (a4 ((base f).at (a.put (some d) v) (.inRegion ops rest::k)) cs) w'):
 bT P Post n Shun 0 (a4 ((base f).at a (.inRegion ops (i::rest)::k)) cs) w:=by
 refine aqA y j s x hd hk r p AA (iC:=λc v' w1=>v'=v/\∃T,w1={c with tape:=T}) (λc l T=>⟨v,_,⟨Y,T,Y⟩,AA⟩) ?_;rintro ρ c v' w1 u w' l ⟨rfl,T,rfl⟩ q g h;have e:u=v':=g.same hv (q AA);subst e;rw[m.1]at h⊢;exact z (qD ρ) w' (λb t=>g.mem t) g.fC g.since (g.aqy j l AA) h
def abX{d:Nat}{g:uak}{args:uay}{ats:uaq}(c:o.op=.call {callee:=.value (.func g),args,argTypes:=ats})(hg:P.funcs[g]?=some cA)(m:(cA.name== "runtime.NumGoroutine")=false)(p:cA.body=some gV){vs:dX}(e:args.map a.eval=vs){V:ubf}(hn:n+16*d<=200)(y:Home O P M Shun w)(t:Bl P M f a ops i k)(s:ops[i]?=some o)(r:vfe o ops a.tmps=true)(q:∀k,fZ O P Post g vs M (w.at k) d V)(v:∀u M' w' h j,h<=n+16*d->Home O P M' j w'->(∀b,M b->M' b)->au (b7 M') u u->nu w w'->V u M' w'->bT P Post h j 0 (a4 ((base f).at (a.put o.dst u) (.inRegion ops rest::k)) cs) w'):
 bT P Post n Shun 0 (a4 ((base f).at a (.inRegion ops (i::rest)::k)) cs) w:=by
 refine Dz (o7 Y (w1:=w) (es:=#[]) (λk'=>(stepG_enter s r (by simp[base]) (iu.sE (b:=base f) c hg m p e _).1).trans (vcd (λes=>GStep.go _ _ es) (iu.sE (b:=base f) c hg m p e _).2)) AS JR (.stop λk'=>?_));refine q k' n Shun hn (y.at _) f a ops i rest k cs t (λu M' w' h j h1 h2 h3 h4 l x=>?_);have:=v u M' w' h j h1 h2 h3 h4 ⟨l.size,l.later,l.output,l.tape⟩ x;grind
theorem count_set{ar:uap}{i}(h:ar.getD i true=false):(ar.setIfInBounds i true).toList.count false+1=ar.toList.count false:=by
 have hi:i<ar.size:=by grind
 have hv:ar[i]=false:=BB;grind
def abZ(d:P.follows .mixedOrders=true){I:Array Bool->Act->(Nat->Prop)->aR->Nat->(Loc->Prop)->Prop}(r:∀ar a M w n Shun k,I ar a M w n Shun->I ar a M (w.at k) n Shun)(hstep:∀ar a M w n Shun i o rest,I ar a M w n Shun->ar.getD i true=false->ops[i]?=some o->(∀e∈o.after,Region.binds .any e=true->ar.getD e.on false=true)->(∀a' M' w' b c,I (ar.setIfInBounds i true) a' M' w' b c->bT P Post b c 0 (a4 ((base f).at a' (.inRegion ops rest::k)) cs) w')->bT P Post n Shun 0 (a4 ((base f).at a (.inRegion ops (i::rest)::k)) cs) w)(g:∀ar a M w n Shun,I ar a M w n Shun->Region.ready .any ops ar=[]->bT P Post n Shun 0 (a4 ((base f).at a (.inRegion ops []::k)) cs) w){id:Nat}(h0:I (Array.replicate ops.size false) a M w n Shun):bT P Post n Shun 0 (a4 ((base f).at a (.code (.region id ops true)::k)) cs) w:=by
 have key:∀(m t:Nat)(ar:uap)(a:Act)(M:dL)(w:aR)(n:Nat)(Shun:ual),ar.toList.count false<=m->I ar a M w n Shun->bT P Post n Shun 0 (a4 ((base f).at a (.inRegion ops (Region.linearise.go .any ops m t ar [])::k)) cs) w:=by
  intro m;induction m with
  |zero=>intro t ar a M w n Shun j hI;refine g ar a M w n Shun hI ?_;cases h:Region.ready .any ops ar with|nil=>rfl|cons x xs=>have q:x∈Region.ready .any ops ar:=AA;grind[count_set,mem_ready]
  |succ m p=>
   intro t ar a M w n Shun j hI;simp only[Region.linearise.go];change bT P Post n Shun 0 (a4 ((base f).at a (.inRegion ops (match(Region.ready .any ops ar)[t % (Region.ready .any ops ar).length]? with
    |some i=>Region.linearise.go .any ops m (t / (Region.ready .any ops ar).length) (ar.setIfInBounds i true) [i]
    |none=>[].reverse)::k)) cs) w
   cases hi:(Region.ready .any ops ar)[t % (Region.ready .any ops ar).length]? with
   |none=>
    have l:Region.ready .any ops ar=[]:=by cases h:Region.ready .any ops ar with|nil=>rfl|cons x xs=>grind[Nat.mod_lt]
    grind
   |some i=>simp only[];rw[linearise_go_acc,List.reverse_singleton,List.singleton_append];obtain⟨h1,o,h2,h3⟩:=mem_ready.1 (List.mem_of_getElem? hi);grind[count_set]
 refine Dz (e8.mk Y λk'=>⟨_,_,_,stepG_region_draw,AS,vac _,.stop λk''=>?_⟩);simp only[Region.schedule,d,Bool.true_or,vcx];exact key ops.size _ _ a M _ n Shun AS (AA:I _ a M (w.at k'') n Shun)
end
end
variable{fn:Func}{c y:Code}
section
variable{O:gW}
def jg(R:uae)(e:Exit)(a:Act)(w:aR):Prop:=e=.normal/\R a w
section
variable{P:cE}
def Kl{ops:fF}{R:uae}(l2:uac)(l:uac):∀(a:Act)(w:aR),wpOps P ops (jg R) l a w->∀(b:Frame)(k:uab)(cs:hH),
 ∃a' w',R a' w'/\Steps P (lone (b.at a (.inRegion ops (l++l2)::k)) cs w) (lone (b.at a' (.inRegion ops l2::k)) cs w'):=by
 induction l with
 |nil=>exact λa w h b k cs=>⟨a,w,h.2,.refl _ _⟩
 |cons i rest j=>
  intro a w h b k cs;simp[wpOps]at h;simp;cases m:ops[i]? with
  |none=>simp[m]at h;obtain⟨a',w',hq,c⟩:=j a w h b k cs;have hs:=step_op_skip (P:=P) (b:=b) (a:=a) (k:=k) (cs:=cs) (w:=w) (ops:=ops) (i:=i) (rest:=rest++l2) AA;simp[m,Act.put]at hs;exact⟨a',w',hq,.head hs c⟩
  |some o=>
   simp[m]at h;by_cases s:vfe o ops a.tmps=true
   .simp[s]at h;rcases h with h|⟨y,r,n,hq⟩
    case inr=>cases hq.1
    simp[Oper.wp,Oper.upon]at h;have hg:=stepG_op (P:=P) (b:=b) (k:=k) (cs:=cs) (w:=w) (rest:=rest++l2) m s;have z:∀v,(b.at a (.inRegion ops (i::(rest++l2))::k)).finish v=b.at (a.put o.dst v) (.inRegion ops (rest++l2)::k):=by grind[Frame.finish_at]
    split at h
    .rename_i v w' p;obtain⟨a',w'',hq,c⟩:=j _ _ h b k cs;refine⟨a',w'',hq,.head (step_lone_go ?_) c⟩;simp_all[stepG.apply]
    .rename_i w' p;obtain⟨a',w'',hq,c⟩:=j _ _ h b k cs;refine⟨a',w'',hq,.head (step_lone_go ?_) c⟩;simp_all[stepG.apply]
    .rename_i d w' p;obtain⟨a',w'',hq,c⟩:=j _ _ h b k cs;refine⟨a',w'',hq,.head (step_lone_go ?_) c⟩;have:({b.at a (.inRegion ops (i::(rest++l2))::k)with defers:=d::a.defers}:Frame).finish undef=
      b.at ({a with defers:=d::a.defers}.put o.dst undef) (.inRegion ops (rest++l2)::k):=by
      have:=vco b {a with defers:=d::a.defers} ops i (rest++l2) k undef;rw[m]at this;exact this
     rw[hg];simp only[stepG.apply,vbe,p,GStep.bare_after];exact vcd (λfr=>GStep.go {frame:=fr,callers:=cs,status:=.running,dying:=none} w') this
    .rename_i f args w' p;obtain⟨e,w'',fr,q,u,_,x⟩:=h (b.at a (.inRegion ops (i::(rest++l2))::k)::cs);have t:step P (lone (b.at a (.inRegion ops (i::(rest++l2))::k)) cs w)=
      .next (lone (Frame.enter P f args .normal) (b.at a (.inRegion ops (i::(rest++l2))::k)::cs) w'):=
      step_lone_go (by simp_all[stepG.apply,Frame.at])
     cases e with
     |returned v=>obtain⟨a',g,hq,c⟩:=j _ _ q b k cs;refine⟨a',g,hq,.head t (Steps.trans u (.head ?_ c))⟩;grind[step_leave_returned]
     |panicked chain=>cases q.1
     |outgrown=>obtain⟨r,n,hq⟩:=q;cases hq.1
    .rename_i row args w' p;obtain⟨v,w'',q,u⟩:=h (b.at a (.inRegion ops (i::(rest++l2))::k)) cs;have t:step P (lone (b.at a (.inRegion ops (i::(rest++l2))::k)) cs w)=
      .next (lone (Frame.ofRow P row args .normal) (b.at a (.inRegion ops (i::(rest++l2))::k)::cs) w'):=
      step_lone_go (by simp_all[stepG.apply,Frame.at])
     obtain⟨a',g,hq,c⟩:=j _ _ q b k cs;refine⟨a',g,hq,.head t (Steps.trans ?_ c)⟩;grind
    .cases h.1
    grind
   .simp[s]at h;obtain⟨a',w',hq,c⟩:=j _ _ h b k cs;have hs:=step_op_skip (P:=P) (b:=b) (a:=a) (k:=k) (cs:=cs) (w:=w) (ops:=ops) (i:=i) (rest:=rest++l2)
     AA
    simp[m]at hs;exact⟨a',w',hq,.head hs c⟩
def bI(P:cE)(ks ks':uab)(Q:uae)(a:Act)(w:aR):Prop:=
 ∀(b:Frame)(cs:hH),∃a1 w1,Q a1 w1/\Steps P (lone (b.at a ks) cs w) (lone (b.at a1 ks') cs w1)
variable{ks ks':uab}{Q:uae}{a:Act}{w:aR}
def lV(h:Q a w):bI P ks ks Q a w:=λ_ _=>⟨a,w,h,.refl _ _⟩
def xU{xV:uab}{w1:aR}(hs:∀(b:Frame)(cs:hH),step P (lone (b.at a ks) cs w)=.next (lone (b.at a xV) cs w1))(h:bI P xV ks' Q a w1):bI P ks ks' Q a w:=λb cs=>by obtain⟨a1,c,h1,h2⟩:=h b cs;exact⟨a1,c,h1,.head (hs b cs) h2⟩
def bC{x}(h:bI P (.code x:: .code y::ks) ks' Q a w):bI P (.code (.seq x y)::ks) ks' Q a w:=xU (λ_ _=>step_seq) h
def tL{id}(h:bI P (.code c:: .inBlock id::ks) ks' Q a w):bI P (.code (.block id c)::ks) ks' Q a w:=xU (λ_ _=>step_block) h
def DD{id}(h:bI P ks ks' Q a w):bI P (.inBlock id::ks) ks' Q a w:=xU (λ_ _=>step_inBlock) h
def Km(h:bI P (.code c:: .inLoop c::ks) ks' Q a w):bI P (.code (.loop c)::ks) ks' Q a w:=xU (λ_ _=>step_loop) h
def Kn(h:bI P (.code c:: .inLoop c::ks) ks' Q a w):bI P (.inLoop c::ks) ks' Q a w:=xU (λ_ _=>step_inLoop) h
def gh{c:uam}{x:Code}{t:Bool}(ht:a.eval c=.bool t)(h:bI P (.code (if t then x else y)::ks) ks' Q a w):bI P (.code (.cond c x y)::ks) ks' Q a w:=xU (λb cs=>by rw[step_cond ht]) h
def nv(h:bI P ks ks' Q a w):bI P (.code .skip::ks) ks' Q a w:=xU (λ_ _=>step_skip) h
def DF{id:Nat}{xV:uab}(b:exitTo id ks=some xV)(h:bI P xV ks' Q a w):bI P (.code (.exit id)::ks) ks' Q a w:=xU (λ_ _=>step_exit b) h
def uR{id:Nat}{ops:fF}(h:bI P (.inRegion ops (List.range' 0 ops.size)::ks) ks' Q a w):bI P (.code (.region id ops false)::ks) ks' Q a w:=xU (λb cs=>by rw[step_region,List.range_eq_range']) h
def xW{ops:fF}(h:bI P ks ks' Q a w):bI P (.inRegion ops []::ks) ks' Q a w:=xU (λ_ _=>step_region_end) h
def DG(h:c.wp P (jg (bI P ks ks' Q)) a w):bI P (.code c::ks) ks' Q a w:=λb cs=>by obtain⟨e,a1,w1,⟨rfl,hq⟩,f⟩:=h b ks cs;obtain⟨g,d,h1,h2⟩:=hq b cs;exact⟨g,d,h1,Steps.trans f h2⟩
def aqC{ops:fF}{Q:uao}(l:ubc):∀k,(∀j(h:j<l.length),ops[k+j]?=some l[j])->wpOps P ops Q (List.range' k l.length)=wpList P ops Q l:=by induction l with|nil=>grind[wpOps,wpList]|cons o l a=>intro k h;have h0:ops[k]?=some o:=h 0 AS;have ih':=a (k+1) (λj b=>by have:=h (j+1) AA;grind);simp_all[List.range'_succ,wpOps,wpList]
def Ko{ops:fF}(m:Nat){k len:Nat}(f:m<=len)(g:k+len<=ops.size)(h:wpList P ops (jg (bI P (.inRegion ops (List.range' (k+m) (len-m))::ks) ks' Q)) ((ops.toList.drop k).take m) a w):bI P (.inRegion ops (List.range' k len)::ks) ks' Q a w:=λb cs=>by
 have hlen:((ops.toList.drop k).take m).length=m:=AA;have c:wpOps P ops (jg (bI P (.inRegion ops (List.range' (k+m) (len-m))::ks) ks' Q)) (List.range' k m) a w:=by
  have:=aqC (P:=P) (ops:=ops) (Q:=jg (bI P (.inRegion ops (List.range' (k+m) (len-m))::ks) ks' Q)) ((ops.toList.drop k).take m) k (λj i=>by
   grind)
  simp_all
 have d:List.range' k len=List.range' k m++List.range' (k+m) (len-m):=by simp_all
 obtain⟨a1,w1,h1,h2⟩:=Kl (List.range' (k+m) (len-m)) (List.range' k m) a w c b ks cs;obtain⟨l,e,h3,h4⟩:=h1 b cs;grind[Steps.trans]
def tM(P:cE)(fn:Func)(ks:uab)(iC:hV)(a:Act)(w:aR):Prop:=
 ∀(f:uak)(cs:hH),P.funcs[f]?=some fn->∃v w1 fr,iC v w1/\Steps P (lone ((base f).at a ks) cs w) (lone fr cs w1)/\fr.leaving P w1 (.returned v)
def DH{iC}(h:bI P ks ks' (tM P fn ks' iC) a w):tM P fn ks iC a w:=λf cs b=>by obtain⟨a1,w1,h1,h2⟩:=h (base f) cs;obtain⟨v,c,fr,g,e,d⟩:=h1 f cs b;grind[Steps.trans]
def Og{iC v}(hd:a.defers=[])(b:(results fn a.tmps).run P w=.ok v w)(h:iC v w):tM P fn (.code .ret::ks) iC a w:=λf cs c=>
 ⟨v,w,_,h,.one step_ret,Y,hd,Y,fn,c,b⟩
def aqD{iC}(h:c.wp P (bodyPost P fn λe w=>∃v,e=.returned v/\iC v w) a w):tM P fn [.code c] iC a w:=λf cs i=>by
 obtain⟨e,a1,w1,hq,g⟩:=h (base f) [] cs;cases e with
 |normal=>obtain⟨hd,v,b,u,e,d⟩:=hq;cases e;exact⟨v,w1,_,d,Steps.trans g (.one step_end),Y,hd,Y,fn,i,b⟩
 |ret=>obtain⟨hd,v,b,u,e,d⟩:=hq;cases e;obtain⟨todo,hs⟩:=g;exact⟨v,w1,_,d,hs,Y,hd,Y,fn,i,b⟩
 |panic chain=>obtain⟨_,u,e,_⟩:=hq;cases e
 |exit id=>exact hq.elim
 |goto l=>exact hq.elim
 |outgrown=>obtain⟨u,e,_⟩:=hq;cases e
end
section
variable{P:cE}{Post:hV}{n:Nat}{Shun:ual}{M:dL}{w:aR}{f:uak}{a:Act}{k k':uab}{cs:hH}
def ab0(g:(dr P).Good)(j:Home O P M Shun w)(d:jQ P f)(e:aJ (b7 M) a.tmps a.tmps)(hd:a.defers=[])(hk:k.all (fB P)=true)(i:k'.all (fB P)=true){Q:aR->Act->aR->Prop}(hrun:∀c,iy (dr P) M (ju M) w c->∀T,bI (ae P true) k k' (λa1 w1=>a1.defers=[]/\Q c a1 w1) a {c with tape:=T})(h:∀ρ c a1 w1 a' w',iy (dr P) M (ju M) w c->Q c a1 w1->aJ ρ a1.tmps a'.tmps->a'.defers=[]->Behind O P M Shun w ρ w1 w'->bT P Post n Shun 0 (a4 ((base f).at a' k') cs) w'):
 bT P Post n Shun 0 (a4 ((base f).at a k) cs) w:=
 wp_move g j d e hd hk i (λc l T b cs=>by
  obtain⟨a1,w1,⟨h1,h2⟩,h3⟩:=hrun c l T b cs;grind) h
def aqE(e:(dr P).Good)(q:Home O P M Shun w)(j:P.funcs[f]?=some fn)(i:gE P true fn=true)(m:fn.body=some gV)(o:aJ (b7 M) a.tmps a.tmps)(hd:a.defers=[])(hk:k.all (fB P)=true){d:uak}{aI:Act}{aC:fF}{aL:Nat}{aO:uac}{aK:uab}{csZ:hH}(l:Bl P M d aI aC aL aK){iC:ubq}(hrun:∀b,iy (dr P) M (ju M) w b->∀T,tM (ae P true) fn k (iC b) a {b with tape:=T})(p:∀ρ b v g u w',iy (dr P) M (ju M) w b->iC b v g->au ρ v u->Behind O P M Shun w ρ g w'->bT P Post n Shun 0 (a4 ((base d).at (aI.put ((aC[aL]?).bind (·.dst)) u) (.inRegion aC aO::aK)) csZ) w'):
 bT P Post n Shun 0 (a4 ((base f).at a k) ((base d).at aI (.inRegion aC (aL::aO)::aK)::csZ)) w:=by
 have h:(ae P true).funcs[f]?=some fn:=bb j i;refine aqw e q (λ_=>Ut e ⟨fn,gV,h,m⟩ o hd hk) l (iC:=iC) (λb r T c cs=>?_) p;obtain⟨v,w1,fr,h1,h2,h3⟩:=hrun b r T f (c::cs) h;exact⟨v,w1,h1,Steps.trans h2 (.one (step_leave_returned h3))⟩
def Bm(b:P.funcs[f]?=some fn)(a:gE P true fn=true)(c:fn.body=some gV):jQ P f:=⟨fn,gV,bb b a,c⟩
end
end
section
variable{O:gW}
def ab1(G:ubf):Prop:=∀v M w M' w',Carry (b7 M) w w'->au (b7 M) v v->(∀b,M b->M' b)->dy M w w'->G v M w->G v M' w'
structure tN(O:gW)(P:cE)(bs:uad)(dd:uas)(m N:Nat)(G:uaf)(dK:Nat)(aD:dL)(w0:aR)(g n0 uS:Nat)(ar:uap)(a:Act)(M:dL)(w:aR)(n:Nat)(Shun:ual):Prop where
 fC:Home O P M Shun w
 len:ar.size=dK
 size:a.tmps.size=N
 defers:a.defers=[]
 all:aJ (b7 M) a.tmps a.tmps
 sub:∀b,aD b->M b
 keep:dy aD w0 w
 since:nu w0 w
 base:∀p∈bs,a.tmps[p.1]?=some p.2
 facts:∀j,j<m->ar.getD j false=true->∃v,a.tmps[dd j]?=some v/\G j v M w
 most:n<=uS/\(ar.getD g false=false->n<=n0)
section
variable{P:cE}{bs:uad}{dd:uas}{m N dK:Nat}{G:uaf}{aD:dL}{w0:aR}{g n0 uS:Nat}{ar:uap}{a:Act}{M:dL}{w:aR}{n:Nat}{Shun:ual}
def tN.start{Shun}(d:Home O P aD Shun w0)(hs:a.tmps.size=N)(hd:a.defers=[])(c:aJ (b7 aD) a.tmps a.tmps)(b:∀p∈bs,a.tmps[p.1]?=some p.2)(hn:n<=uS/\n<=n0):tN O P bs dd m N G dK aD w0 g n0 uS (Array.replicate dK false) a aD w0 n Shun:=
 ⟨d,AS,hs,hd,c,λ_ h=>h,dy.refl _ _,nu.refl _,b,λj _ h=>by
  simp_all[Array.getD],hn.1,λ_=>hn.2⟩
theorem tN.at(d:∀j v M w k,G j v M w->G j v M (w.at k))k(h:tN O P bs dd m N G dK aD w0 g n0 uS ar a M w n Shun):tN O P bs dd m N G dK aD w0 g n0 uS ar a M (w.at k) n Shun:=
 ⟨(h.fC.at _),h.len,h.size,h.defers,h.all,h.sub,h.keep,⟨h.since.size,h.since.later,h.since.output,h.since.tape⟩,h.base,λj h1 h2=>by
  obtain⟨v,c,b⟩:=h.facts j h1 h2;grind,h.most⟩
theorem tN.eval(h:tN O P bs dd m N G dK aD w0 g n0 uS ar a M w n Shun){t v}(b:(t,v)∈bs):a.eval (.tmp t)=v:=by have:=h.base _ b;simp[Act.eval,this]
theorem lW{ar:uap}{i j}(hi:i<ar.size):(ar.setIfInBounds i true).getD j false=true↔j=i\/ar.getD j false=true:=by
 rcases vdz j ar.size with x|x
 .simp only[Array.getD,vey,x,dif_pos,Array.getInternal_eq_getElem,Array.getElem_setIfInBounds];grind
 grind
theorem tN.step(h:tN O P bs dd m N G dK aD w0 g n0 uS ar a M w n Shun){j u M' w' c o}(t:j<m/\j<dK/\dd j<N)(D:∀p∈bs,dd j≠p.1)(x:∀i,i<m->i≠j->dd j≠dd i)(z:∀i,i<m->ab1 (G i))(B:Home O P M' o w')(d:∀b,M b->M' b)(hk:dy M w w')(hs:nu w w')(s:au (b7 M') u u)(C:G j u M' w')(hn:c<=uS/\(j≠g->c<=n)):tN O P bs dd m N G dK aD w0 g n0 uS (ar.setIfInBounds j true) (a.put (some (dd j)) u) M' w' c o:=by
 have A:aJ (b7 M') a.tmps a.tmps:=h.all.mono (tJ d);refine⟨B,by simp[h.len],Fh,Hy,?_,λb y=>d b (h.sub b y),h.keep.trans h.sub hk,h.since.trans hs,λp k=>?_,λi hi l=>?_,hn.1,λl=>?_⟩
 .exact A.set s _
 .have:=h.base p k;simp[Act.put,D p k];grind
 .by_cases e:i=j
  .subst e;exact⟨u,by simp[Act.put,h.size,t.2.2],C⟩
  .have q:ar.getD i false=true:=((lW G4).1 l).resolve_left e;obtain⟨v,f,r⟩:=h.facts i hi q;refine⟨v,?_,z i hi v M w M' w' (hk.carry h.fC) ?_ d hk r⟩
   .simp_all[Act.put]
   .exact h.all.get _ _ _ f f
 .by_cases e:j=g
  .have:=(lW (ar:=ar) (i:=j) (j:=g) G4).2 (.inl e.symm);grind
  .refine vad (hn.2 e) (h.most.2 ?_);simp_all
theorem xX{o}(h:o.guard=none)y:Region.wanted o y=true:=by grind[Region.wanted]
variable{Post:hV}{f:uak}{ops:fF}{rest:uac}{k:uab}{cs:hH}{o:Oper}{j:Nat}
def tN.val(y:(dr P).Good)(x:jQ P f)(hk:(Item.inRegion ops []::k).all (fB P)=true)(hd:∀i,i<m->i<dK/\dd i<N/\(∀p∈bs,dd i≠p.1)/\∀c,c<m->c≠i->dd i≠dd c)(q:∀i,i<m->ab1 (G i))(h:tN O P bs dd m N G dK aD w0 g n0 uS ar a M w n Shun)(u:ops[j]?=some o)(d:j<m)(t:o.dst=some (dd j))(B:o.guard=none)v(hv:au (b7 M) v v)(hrun:∀e,iy (dr P) M (ju M) w e->∀T,(execOp a.eval o).run (ae P true) {e with tape:=T}=.ok (.value v) {e with tape:=T})(D:G j v M w)(K:∀a' M' w' l s,tN O P bs dd m N G dK aD w0 g n0 uS (ar.setIfInBounds j true) a' M' w' l s->bT P Post l s 0 (a4 ((Conc.base f).at a' (.inRegion ops rest::k)) cs) w'):
 bT P Post n Shun 0 (a4 ((Conc.base f).at a (.inRegion ops (j::rest)::k)) cs) w:=by
 obtain⟨d1,r,A,z⟩:=hd j d;refine aqB y h.fC x h.all h.defers hk u (xX B _) ⟨t,by rw[h.size];exact r⟩ hv hrun λM' w' hs C E b F=>?_;exact K _ M' w' n Shun (h.step ⟨d,d1,r⟩ A z q C hs b E (hv.mono (tJ hs)) (q j d v M w M' w' (b.carry h.fC) hv hs b D) ⟨h.most.1,AA⟩)
def UB{ops:fF}(a:(List.range ops.size).all (λj=>match ops[j]? with|some o=>o.after.all λe=> !Region.binds .any e||decide (e.on<j)|none=>true)=true)(h:ar.size=ops.size)(f:Region.ready .any ops ar=[]):∀j,j<ops.size->ar.getD j false=true:=by
 intro j;induction j using Nat.strongRecOn with
 | _ j d=>
  intro b;apply vaz;intro hn;have g:j∈Region.ready .any ops ar:=by
   refine mem_ready.2 ⟨?_,ops[j],AA,λe c i=>?_⟩
   .grind
   .have:=vdh.1 a j AA;simp only[vas b]at this;have:=vau.1 this e c;grind
  grind
end
end
variable{gJ:Tmp}
section
open RowKit
variable{O:gW}
structure sK(n0:Nat)(ρ:Ren)(w w':aR):Prop where
 cells:Carry ρ w w'
 types:∀a b c e z,ρ.rel a b->w.heap[a]?=some (.cells c e z)->∃c',w'.heap[b]?=some (.cells c' e z)/\c'.size=c.size
 new:∀a b,ρ.rel a b->n0<=a->n0<=b
 inj:∀a a' b,ρ.rel a b->ρ.rel a' b->a=a'
def kY(n0:Nat)(R:uaw):Prop:=∀ρ w w' v v',sK n0 ρ w w'->au ρ v v'->R w v->R w' v'
def o9(n0:Nat)(I:uae):Prop:=∀ρ a a' w w',sK n0 ρ w w'->aJ ρ a.tmps a'.tmps->I a w->I a' w'
def DI(aD:dL)(n0:Nat)(I:uae):Prop:=∀ρ a a' w w',sK n0 ρ w w'->(∀b,aD b->ρ.rel b b)->(∀a b b',ρ.rel a b->ρ.rel a b'->b=b')->aJ ρ a.tmps a'.tmps->I a w->I a' w'
def o9.p{n0 I}(h:o9 n0 I){aD}:DI aD n0 I:=λρ a a' w w' b _ _=>h ρ a a' w w' b
def UC{M}:∀a b c,(b7 M).rel a b->(b7 M).rel a c->b=c:=λ_ _ _ h1 h2=>h1.1.symm.trans h2.1
def j6(N:Nat)(fs:List (Nat×(aR->Value->Prop)))(a:Act)(w:aR):Prop:=a.tmps.size=N/\∀p∈fs,∃v,a.tmps[p.1]?=some v/\p.2 w v
def zf{n0 N fs}(h:∀p∈fs,kY n0 p.2):o9 n0 (j6 N fs):=by rintro ρ a a' w w' e c ⟨hs,d⟩;refine⟨by rw[<-c.size];exact hs,λp b=>?_⟩;obtain⟨v,h1,h2⟩:=d p b;obtain⟨v',h3,h4⟩:=c.some h1;exact⟨v',h3,h p b _ _ _ _ _ e h4 h2⟩
section
variable{P:cE}{Post:hV}{n:Nat}{Shun:ual}{M:dL}{w:aR}
def Behind.my{n0 ρ g w'}(h:Behind O P M Shun w ρ g w')(hn:n0<=w.heap.size):sK n0 ρ g w':=by
 refine⟨h.carry,λa b c e z r k=>?_,λa b r n=>?_,(by obtain⟨S,d⟩:=h.rel;exact d.inj)⟩
 .obtain⟨S,d⟩:=h.rel;obtain⟨o,o',f,j,i⟩:=d.obj a b r;rw[k]at f;cases f;cases i with|@cells _ p _ _ bD m l=>have e1:bD=z:=l.2 Y;subst e1;exact⟨_,j,m.size.symm⟩
 .rcases h.old a b r with⟨e,-⟩|h
  .grind
  .omega
def Home.my{n0}(f:Home O P M Shun w){d}(g:iy (dr P) M (ju M) w d)T:sK n0 (b7 M) w {d with tape:=T}:=by refine⟨λa a' v r h=>g.carry f.cl a a' v r h,λa b c e z r j=>?_,λa b r l=>r.1▸l,λa a' b r i=>r.1.trans i.1.symm⟩;obtain⟨rfl,k⟩:=r;obtain⟨m,h4,n⟩:=g.cells f.cl k j;grind
def dy.my{n0 w'}(h:dy M w w')(j:Home O P M Shun w):sK n0 (b7 M) w w':=by refine⟨h.carry j,λa b c e z r f=>?_,λa b r i=>r.1▸i,λa a' b r d=>r.1.trans d.1.symm⟩;obtain⟨rfl,g⟩:=r;exact⟨_,h _ _ _ _ g f,Y⟩
def Behind.aqH{ρ k j w'}(h:Behind O P M Shun w ρ j w')(l:Home O P M Shun w)(v:iy (dr P) M (ju M) w k){N}(a5:∀b,N b->M b)(hk:∀b c e z,N b->k.heap[b]?=some (.cells c e z)->j.heap[b]?=some (.cells c e z)):dy N w w':=by
 intro b c e fr a g;obtain⟨m,h4,u⟩:=v.cells l.cl (a5 b a) g;have s:=u (a5 b a);subst s;have t:=hk b c e _ a h4;obtain⟨S,i⟩:=h.rel;obtain⟨o,o',f,d,p⟩:=i.obj b b (h.le.1 b b ⟨Y,a5 b a⟩);rw[t]at f;cases f;cases p with
 |@cells _ x _ _ bD r q=>
  have e1:bD=m:=q.2 Y;subst e1;obtain⟨o2,aZ,a3⟩:=l.cl b (a5 b a);rw[g]at aZ;cases aZ;rcases a3 with a3|a3
  .cases a3 with|cells _ n _=>rw[Uw i.one r (n.mono h.le)]at d;exact d
  .exact a3.elim
variable{f:uak}{a:Act}{k k':uab}{cs:hH}{n0:Nat}
structure Held(O:gW)(P:cE)(aD:dL)(w0:aR)(n0:Nat)(a:Act)(M:dL)(w:aR)(Shun:ual):Prop where
 fC:Home O P M Shun w
 sub:∀b,aD b->M b
 since:nu w0 w
 keep:dy (λb=>aD b/\b<n0) w0 w
 all:aJ (b7 M) a.tmps a.tmps
 defers:a.defers=[]
 size:n0<=w.heap.size
def Held.start(c:Home O P M Shun w)(hn:n0<=w.heap.size)(b:aJ (b7 M) a.tmps a.tmps)(hd:a.defers=[]):Held O P M w n0 a M w Shun:=⟨c,λ_ h=>h,.refl _,.refl _ _,b,hd,hn⟩
variable{aD:dL}{w0:aR}
theorem Held.at(h:Held O P aD w0 n0 a M w Shun)k:Held O P aD w0 n0 a M (w.at k) Shun:=
 ⟨(h.fC.at _),h.sub,⟨h.since.size,h.since.later,h.since.output,h.since.tape⟩,h.keep,h.all,h.defers,h.size⟩
def Held.next(h:Held O P aD w0 n0 a M w Shun){ρ f e w' T}(j:iy (dr P) M (ju M) w f)(d:Behind O P M Shun w ρ e w')(c:Below n0 {f with tape:=T} e){a'}(i:aJ (b7 (qD ρ)) a'.tmps a'.tmps)(hd:a'.defers=[]):Held O P aD w0 n0 a' (qD ρ) w' Shun:=
 ⟨d.fC,λb c=>d.mem (h.sub b c),h.since.trans d.since,h.keep.trans (M':=λb=>M b/\b<n0) (λb c=>⟨h.sub b c.1,c.2⟩) (d.aqH h.fC j AA λb _ _ _ hn g=>(c.block b hn.2).trans g),i,hd,vad h.size d.since.size⟩
def Oh(j:(dr P).Good)(h:jQ P f)(H:Held O P aD w0 n0 a M w Shun)(hk:k.all (fB P)=true)(o:k'.all (fB P)=true){I J}(hI:DI aD n0 I)(l:DI aD n0 J)(h0:I a w)(hrun:∀W,n0<=W.heap.size->I a W->bI (ae P true) k k' (λa1 w1=>a1.defers=[]/\J a1 w1/\Below n0 W w1) a W)(m:∀a' M' w',Held O P aD w0 n0 a' M' w' Shun->J a' w'->bT P Post n Shun 0 (a4 ((base f).at a' k') cs) w'):
 bT P Post n Shun 0 (a4 ((base f).at a k) cs) w:=by
 refine ab0 j H.fC h H.all H.defers hk o (Q:=λd a1 w1=>J a1 w1/\∃T,Below n0 {d with tape:=T} w1) (λd e T b cs=>?_) ?_
 .obtain⟨a1,w1,⟨h1,h2,h3⟩,h4⟩:=hrun {d with tape:=T} (by show n0<=d.heap.size;rw[e.size];exact H.size) (hI _ _ _ _ _ (H.fC.my e T) (λb g=>⟨Y,H.sub b g⟩) UC H.all h0) b cs;grind
 .rintro ρ d a1 w1 a' w' e ⟨h1,T,h2⟩ h3 h4 c;exact m a' (qD ρ) w' (H.next e c h2 (c.all h3) h4) (l _ _ _ _ _ (c.my H.size) (λb g=>c.le.1 b b ⟨Y,H.sub b g⟩) (by obtain⟨S,i⟩:=c.rel;exact i.one) h3 h1)
def UD(c:(dr P).Good)(b:jQ P f)(H:Held O P aD w0 n0 a M w Shun)(hk:k.all (fB P)=true)(g:k'.all (fB P)=true){I J}(hI:o9 n0 I)(d:o9 n0 J)(h0:I a w)(hrun:∀W,n0<=W.heap.size->I a W->bI (ae P true) k k' (λa1 w1=>a1.defers=[]/\J a1 w1/\Below n0 W w1) a W)(e:∀a' M' w',Held O P aD w0 n0 a' M' w' Shun->J a' w'->bT P Post n Shun 0 (a4 ((base f).at a' k') cs) w'):
 bT P Post n Shun 0 (a4 ((base f).at a k) cs) w:=
 Oh c b H hk g hI.p d.p h0 hrun e
def Kp(o:(dr P).Good)(j:P.funcs[f]?=some fn)(i:gE P true fn=true)(m:fn.body=some gV)(H:Held O P aD w0 n0 a M w Shun)(hk:k.all (fB P)=true){h:uak}{aI:Act}{aC:fF}{aL:Nat}{aO:uac}{aK:uab}{csZ:hH}(l:Bl P aD h aI aC aL aK){I:uae}{iC:uaw}(hI:o9 n0 I)(q:kY n0 iC)(h0:I a w)(hrun:∀W,n0<=W.heap.size->I a W->tM (ae P true) fn k (λv w1=>iC w1 v/\Below n0 W w1) a W)(p:∀u M' w',Home O P M' Shun w'->(∀b,aD b->M' b)->au (b7 M') u u->nu w0 w'->dy (λb=>aD b/\b<n0) w0 w'->iC w' u->bT P Post n Shun 0 (a4 ((base h).at (aI.put ((aC[aL]?).bind (·.dst)) u) (.inRegion aC aO::aK)) csZ) w'):
 bT P Post n Shun 0 (a4 ((base f).at a k) ((base h).at aI (.inRegion aC (aL::aO)::aK)::csZ)) w:=by
 refine aqE o H.fC j i m H.all H.defers hk (l.mono H.sub) (iC:=λc v w1=>iC w1 v/\∃T,Below n0 {c with tape:=T} w1) (λc e T f cs r=>?_) ?_
 .obtain⟨v,w1,fr,⟨h1,h2⟩,h3,h4⟩:=hrun {c with tape:=T} I7 (hI _ _ _ _ _ (H.fC.my e T) H.all h0) f cs r;grind
 .rintro ρ c v s u w' e ⟨h1,T,h2⟩ h3 g;have d:=H.next e g h2 (a':=⟨#[],[]⟩) ⟨Y,AA⟩ Y;exact p u (qD ρ) w' d.fC d.sub (g.val h3) d.since d.keep (q _ _ _ _ _ (g.my H.size) h3 h1)
variable{ops:fF}{i:Nat}{rest:uac}{o:Oper}
def UE{d:Nat}{g:uak}{args:uay}{ats:uaq}(j:o.op=.call {callee:=.value (.func g),args,argTypes:=ats})(hg:P.funcs[g]?=some cA)(p:(cA.name== "runtime.NumGoroutine")=false)(c:cA.body=some gV)(hn:n+16*d<=200)(t:jQ P f)(H:Held O P aD w0 n0 a M w Shun)(hk:(Item.inRegion ops []::k).all (fB P)=true)(s:ops[i]?=some o)(y:o.guard=none)(q:o.dst=some gJ/\gJ<a.tmps.size){I J:uae}{iP:uaw}(hI:DI aD n0 I)(h0:I a w)(r:∀k,fZ O P Post g (args.map a.eval) M (w.at k) d (λu _ w'=>iP w' u/\dy M w w'))(v:∀u w',I a w'->iP w' u->J (a.put (some gJ) u) w')(x:∀a' M' w' e h,e<=n+16*d->Held O P aD w0 n0 a' M' w' h->J a' w'->bT P Post e h 0 (a4 ((base f).at a' (.inRegion ops rest::k)) cs) w'):
 bT P Post n Shun 0 (a4 ((base f).at a (.inRegion ops (i::rest)::k)) cs) w:=by
 simp only[vbu,vag]at hk;refine abX j hg p c Y hn H.fC ⟨t,.inl H.all,H.defers,hk.1,hk.2,AA⟩ s (xX y _) r ?_;rintro u M' w' e h h1 h2 h3 h4 m ⟨z,l⟩;rw[q.1];refine x _ M' w' e h h1 ⟨h2,λb c=>h3 b (H.sub b c),H.since.trans m,H.keep.trans (λb c=>H.sub b c.1) l,?_,H5,vad H.size m.size⟩ (v u w' (hI _ _ _ _ _ (l.my H.fC) (λb c=>⟨Y,H.sub b c⟩) UC H.all h0) z);exact(H.all.mono (tJ h3)).set h4 _
def ab3{d:Nat}{g:uak}{args:uay}{ats:uaq}(b:o.op=.call {callee:=.value (.func g),args,argTypes:=ats})(hg:P.funcs[g]?=some cA)(h:(cA.name== "runtime.NumGoroutine")=false)(q:cA.body=some gV)(hn:n+16*d<=200)(p:jQ P f)(H:Held O P aD w0 n0 a M w Shun)(hk:(Item.inRegion ops []::k).all (fB P)=true)(m:ops[i]?=some o)(t:o.guard=none)(j:o.dst=some gJ/\gJ<a.tmps.size){I J:uae}{iP:uaw}(hI:o9 n0 I)(h0:I a w)(l:∀k,fZ O P Post g (args.map a.eval) M (w.at k) d (λu _ w'=>iP w' u/\dy M w w'))(r:∀u w',I a w'->iP w' u->J (a.put (some gJ) u) w')(s:∀a' M' w' c e,c<=n+16*d->Held O P aD w0 n0 a' M' w' e->J a' w'->bT P Post c e 0 (a4 ((base f).at a' (.inRegion ops rest::k)) cs) w'):
 bT P Post n Shun 0 (a4 ((base f).at a (.inRegion ops (i::rest)::k)) cs) w:=
 UE b hg h q hn p H hk m t j hI.p h0 l r s
def ab4(L:(dr P).Good)(A:P.follows .mixedOrders=true)(v:jQ P f)(hk:(Item.inRegion ops []::k).all (fB P)=true)(g:Nat){j:Oper}{d:Nat}{gf:uak}{args:uay}{ats:uaq}(s:ops[g]?=some j)(m:j.op=.call {callee:=.value (.func gf),args,argTypes:=ats})(z:P.funcs[gf]?=some cA)(C:(cA.name== "runtime.NumGoroutine")=false)(q:cA.body=some gV)(N:j.guard=none)(hn:n+16*d<=200){I:ubp}(hI:∀ar,DI aD n0 (I ar))(U:j.dst=some gJ)(X:∀ar a w,I ar a w->gJ<a.tmps.size){iP:uaw}(hsz:∀ar a w,I ar a w->ar.size=ops.size)(H:Held O P aD w0 n0 a M w Shun)(h0:I (Array.replicate ops.size false) a w)(hstep:∀ar a W i o,I ar a W->a.defers=[]->n0<=W.heap.size->i≠g->ar.getD i true=false->ops[i]?=some o->(∀e∈o.after,Region.binds .any e=true->ar.getD e.on false=true)->wpOps (ae P true) ops (jg λa1 w1=>a1.defers=[]/\I (ar.setIfInBounds i true) a1 w1/\Below n0 W w1) [i] a W)(E:∀ar a M w Shun,Held O P aD w0 n0 a M w Shun->I ar a w->ar.getD g false=false->(∀e∈j.after,Region.binds .any e=true->ar.getD e.on false=true)->fZ O P Post gf (args.map a.eval) M w d (λu _ w'=>iP w' u/\dy M w w'))(D:∀ar a w u,I ar a w->ar.getD g false=false->(∀e∈j.after,Region.binds .any e=true->ar.getD e.on false=true)->iP w u->I (ar.setIfInBounds g true) (a.put (some gJ) u) w)(T:∀ar a M' w' c y,I ar a w'->Region.ready .any ops ar=[]->c<=n+16*d->Held O P aD w0 n0 a M' w' y->bT P Post c y 0 (a4 ((base f).at a (.inRegion ops []::k)) cs) w'){id:Nat}:bT P Post n Shun 0 (a4 ((base f).at a (.code (.region id ops true)::k)) cs) w:=by
 have V:∀ar a M w Shun k,Held O P aD w0 n0 a M w Shun->I ar a w->I ar a (w.at k):=λar a M w Shun k H h=>hI ar _ _ _ _ _ ((show dy M w (w.at k)from λ_ _ _ _ _ x=>x).my H.fC) (λb q=>⟨Y,H.sub b q⟩) UC H.all h;refine abZ A (I:=λar a M w c Shun=>Held O P aD w0 n0 a M w Shun/\I ar a w/\c<=n+16*d/\(ar.getD g false=false->c<=n)) (λar a M w c Shun k h=>⟨h.1.at k,AA,h.2.2⟩) ?_ AA ⟨H,h0,vee _ _,λ_=>vac _⟩;intro ar a M w c Shun i o rest ⟨H,hi,Z,R⟩ B p l K;have S:i<ar.size:=by grind
 by_cases r:i=g
 .subst r;rw[s]at p;cases p;have t:ar.getD i false=false:=by grind
  refine UE m z C q AA v H hk s N AA (I:=I ar) (J:=I (ar.setIfInBounds i true)) (iP:=iP) (hI ar) hi (λk=>E ar a M (w.at k) Shun (H.at k) AA t l) (λu w' h1 h2=>D ar a w' u h1 t l h2) ?_;grind[lW]
 .refine Oh L v H (k:=.inRegion ops (i::rest)::k) (k':=.inRegion ops rest::k) CQ CQ (I:=I ar) (J:=I (ar.setIfInBounds i true)) (hI ar) (hI _) hi (λW F Q b cs=>?_) ?_
  .obtain⟨a1,w1,h1,h2⟩:=Kl rest [i] a W (hstep ar a W i o Q H.defers F r B p l) b k cs;grind
  grind[lW]
def aqI(z:(dr P).Good)(m:P.follows .mixedOrders=true)(x:jQ P f)(hk:(Item.inRegion ops []::k).all (fB P)=true)(g:Nat){b:Oper}{d:Nat}{gf:uak}{args:uay}{ats:uaq}(p:ops[g]?=some b)(c:b.op=.call {callee:=.value (.func gf),args,argTypes:=ats})(l:P.funcs[gf]?=some cA)(r:(cA.name== "runtime.NumGoroutine")=false)(y:cA.body=some gV)(A:b.guard=none)(hn:n+16*d<=200){I:ubp}(hI:∀ar,o9 n0 (I ar))(t:b.dst=some gJ)(B:∀ar a w,I ar a w->gJ<a.tmps.size){iP:uaw}(hsz:∀ar a w,I ar a w->ar.size=ops.size)(H:Held O P aD w0 n0 a M w Shun)(h0:I (Array.replicate ops.size false) a w)(hstep:∀ar a W i o,I ar a W->a.defers=[]->n0<=W.heap.size->i≠g->ar.getD i true=false->ops[i]?=some o->(∀e∈o.after,Region.binds .any e=true->ar.getD e.on false=true)->wpOps (ae P true) ops (jg λa1 w1=>a1.defers=[]/\I (ar.setIfInBounds i true) a1 w1/\Below n0 W w1) [i] a W)(v:∀ar a M w Shun,Held O P aD w0 n0 a M w Shun->I ar a w->ar.getD g false=false->(∀e∈b.after,Region.binds .any e=true->ar.getD e.on false=true)->fZ O P Post gf (args.map a.eval) M w d (λu _ w'=>iP w' u/\dy M w w'))(s:∀ar a w u,I ar a w->ar.getD g false=false->(∀e∈b.after,Region.binds .any e=true->ar.getD e.on false=true)->iP w u->I (ar.setIfInBounds g true) (a.put (some gJ) u) w)(q:∀ar a M' w' h j,I ar a w'->Region.ready .any ops ar=[]->h<=n+16*d->Held O P aD w0 n0 a M' w' j->bT P Post h j 0 (a4 ((base f).at a (.inRegion ops []::k)) cs) w'){id:Nat}:bT P Post n Shun 0 (a4 ((base f).at a (.code (.region id ops true)::k)) cs) w:=
 ab4 z m x hk g p c l r y A hn (λar=>(hI ar).p) t B hsz H h0 hstep v s q
end
end
section
open RowKit
section
variable{ρ:Ren}
theorem UF:∀{l a:uai},l.length=a.length->(∀(i:Nat)(v v':Value),l[i]?=some v->a[i]?=some v'->au ρ v v')->dJ (au ρ) l a
 | [],[],_,_=>.nil
 | [],_::_,hs,_=>AA
 | _::_,[],hs,_=>AA
 | _::_,_::_,hs,h=>.cons (h 0 _ _ Y Y) (UF AA λi v v' h1 h2=>h (i+1) v v' AA AA)
def ab6{l:uai}{b:dX}(hs:l.toArray.size=b.size)(h:∀(i:Nat)(v v':Value),l.toArray[i]?=some v->b[i]?=some v'->au ρ v v'):∃a,b=a.toArray/\dJ (au ρ) l a:=by grind[UF]
def Hh{l:uai}{u:Value}(h:au ρ (.tuple l.toArray) u):∃a,u=.tuple a.toArray/\dJ (au ρ) l a:=by cases h with|tuple hs hg=>obtain⟨a,rfl,k⟩:=ab6 hs hg;grind
theorem uU{l:uai}{u:Value}(h:au ρ (.agg l.toArray) u):∃a,u=.agg a.toArray/\dJ (au ρ) l a:=by cases h with|agg hs hg=>obtain⟨a,rfl,k⟩:=ab6 hs hg;grind
theorem hP{k n u}(h:au ρ (.int k n) u):u=.int k n:=by cases h;rfl
def UG{b u}(h:au ρ (.bool b) u):u=.bool b:=by cases h;rfl
def lx{l c u}(h:au ρ (.slice none l c) u):u=.slice none l c:=by cases h;rfl
def rH{b o l c u}(h:au ρ (.S b o l c) u):∃a,u=.S a o l c/\ρ.rel b a:=by cases h with|@slice _ a' _ _ r=>obtain⟨a,o',s'⟩:=a';obtain⟨f,e,d⟩:=r;grind
def Oj{a:uag}{l c:Nat}{u:Value}(h:au ρ (.slice a l c) u):∃b,u=.slice b l c:=by cases h with|iH=>grind|slice=>grind
theorem zg{b o u}(h:au ρ (.P b o) u):∃a,u=.P a o/\ρ.rel b a:=by cases h with|@ptr _ a' r=>obtain⟨a,o',s'⟩:=a';obtain⟨e,d,c⟩:=r;grind
end
variable{n0:Nat}
def eO(x:Value)(_:aR)(v:Value):Prop:=v=x
theorem Bn k i:kY n0 (eO (.int k i)):=λ_ _ _ _ _ _ hv h=>by cases h;exact hP hv
def aqJ b:kY n0 (eO (.bool b)):=λ_ _ _ _ _ _ hv h=>by cases h;exact UG hv
def aqK:kY n0 (eO undef):=λ_ _ _ _ _ _ hv h=>by cases h;obtain⟨a,rfl,k⟩:=Hh (l:=[]) hv;cases k;rfl
def ab7 a b:kY n0 (eO (.agg #[.I a,.I b])):=λ_ _ _ _ _ _ hv h=>by
 cases h;obtain⟨c,rfl,k⟩:=uU hv;cases k with
 |cons h1 k=>cases k with
  |cons h2 k=>cases k;rw[hP h1,hP h2];rfl
def uV(R:uaw):Prop:=∀w w' v,c6 w w'->R w v->R w' v
def uV.eq x:uV (eO x):=λ_ _ _ _ h=>h
theorem Ol n j:(Array.replicate n false).getD j false=false:=by simp_all[Array.getD]
def mS{P:cE}{ops:fF}{Q:uao}{R:uae}{i:Nat}{rest:uac}{a:Act}{w:aR}(h:wpOps P ops (jg R) [i] a w)(k:∀a w,R a w->wpOps P ops Q rest a w):wpOps P ops Q (i::rest) a w:=by
 simp[wpOps]at h⊢;cases m:ops[i]? with
 |none=>simp[m]at h⊢;exact k _ _ h.2
 |some o=>
  simp[m]at h⊢;by_cases l:vfe o ops a.tmps=true
  .simp[l]at h⊢;rcases h with h|⟨-,j,b,hq⟩
   .refine .inl ?_;simp[Oper.wp,Oper.upon]at h⊢;generalize(execOp a.eval o).run P w=r at h⊢;cases r with
    |ok x w'=>
     cases x with
     |value v=>exact k _ _ h.2
     |skip=>exact k _ _ h.2
     |defer d=>exact k _ _ h.2
     |enter f args=>refine vdm h ?_;intro e w'' g;cases e with|returned v=>exact k _ _ g.2|panicked c=>cases g.1|outgrown=>obtain⟨j,b,hq⟩:=g;cases hq.1
     |row r args=>exact Rows.mono h λ_ _ g=>k _ _ g.2
     | _=>exact h.elim
    |halt x w'=>cases x<;>first|exact h.elim|(cases h.1)
   .cases hq.1
  .simp[l]at h⊢;exact k _ _ h.2
theorem ab8{P:cE}{ops:fF}{Q:uae}{i:Nat}{o:Oper}{a:Act}{w w1:aR}{v:Value}(d:ops[i]?=some o)(b:vfe o ops a.tmps=true){s:Nat}(hd:o.dst=some s)(c:(execOp a.eval o).run P w=.ok (.value v) w1)(h:Q (a.put (some s) v) w1):wpOps P ops (jg Q) [i] a w:=by simp[wpOps,d,b];refine .inl ?_;simp[Oper.wp,Oper.upon,c,hd];exact⟨Y,h⟩
def ab9{P:cE}{ops:fF}{Q:uae}{i:Nat}{o:Oper}{a:Act}{w:aR}(d:ops[i]?=some o)(b:vfe o ops a.tmps=true){s:Nat}(hd:o.dst=some s){f:uak}{args:dX}(c:(execOp a.eval o).run P w=.ok (.enter f args) w)(h:Calls P f args w λe w'=>∃v,e=.returned v/\Q (a.put (some s) v) w'):wpOps P ops (jg Q) [i] a w:=by simp[wpOps,d,b];refine .inl ?_;simp[Oper.wp,Oper.upon,c,hd];refine h.mono ?_;rintro e w' ⟨v,rfl,h⟩;exact⟨Y,h⟩
def ab_{P:cE}{ops:fF}{Q:uae}{i:Nat}{o:Oper}{a:Act}{w:aR}(c:ops[i]?=some o)(b:vfe o ops a.tmps=false){s:Nat}(hd:o.dst=some s)(h:Q (a.put (some s) undef) w):wpOps P ops (jg Q) [i] a w:=by simp[wpOps,c,b,hd];exact⟨Y,h⟩
section
variable{P:cE}{ops:fF}{Q:uae}{i:Nat}{o:Oper}{a:Act}{w w1:aR}{v:Value}
def nR(c:ops[i]?=some o)(d:o.guard=none){s:Nat}(hd:o.dst=some s)(b:(execOp a.eval o).run P w=.ok (.value v) w1)(h:Q (a.put (some s) v) w1):wpOps P ops (jg Q) [i] a w:=ab8 c (xX d _) hd b h
def Bo(c:ops[i]?=some o)(d:o.guard=none)(hd:o.dst=none)(b:(execOp a.eval o).run P w=.ok .skip w1)(h:Q a w1):wpOps P ops (jg Q) [i] a w:=by simp[wpOps,c,xX d];refine .inl ?_;simp[Oper.wp,Oper.upon,b,hd];exact⟨Y,h⟩
def UH(c:ops[i]?=some o)(d:o.guard=none){s:Nat}(hd:o.dst=some s){f:uak}{args:dX}(b:(execOp a.eval o).run P w=.ok (.enter f args) w)(h:Calls P f args w λe w'=>∃v,e=.returned v/\Q (a.put (some s) v) w'):wpOps P ops (jg Q) [i] a w:=ab9 c (xX d _) hd b h
end
def aqL{ops:fF}{o:Oper}{tmps:dX}{g d:Nat}{b c:Bool}(hg:o.guard=some (g,b))(hd:(ops[g]?).bind (·.dst)=some d)(ht:tmps[d]?=some (.bool c)):Region.wanted o (yielded ops tmps)=(c==b):=by grind[Region.wanted,yielded]
def aqM{ops:fF}{o:Oper}{tmps:dX}{g d:Nat}{b:Bool}(hg:o.guard=some (g,b))(hd:(ops[g]?).bind (·.dst)=some d)(ht:tmps[d]?=some undef):Region.wanted o (yielded ops tmps)=false:=by unfold Region.wanted yielded;simp only[hg,hd,vcv,ht];cases b<;>rfl
def aqN{P:cE}{ops:fF}{Q:uao}{R K:uae}{i:Nat}{a:Act}{w:aR}(h:wpOps P ops (jg R) [i] a w)(k:∀a w,R a w->K a w):wpOp P ops Q i K a w:=by
 rw[wpOps_cons]at h;have h:=wpOp_mono (K':=R) (λa w(n:wpOps P ops (jg R) [] a w)=>n.2) h;unfold wpOp at h⊢;cases m:ops[i]? with
 |none=>grind
 |some o=>
  simp[m]at h⊢;by_cases l:vfe o ops a.tmps=true
  .simp[l]at h⊢;rcases h with h|⟨-,g,b,hq⟩
   .refine .inl ?_;simp[Oper.wp,Oper.upon]at h⊢;generalize(execOp a.eval o).run P w=r at h⊢;cases r with
    |ok x w'=>
     cases x with
     |value v=>grind
     |skip=>grind
     |defer d=>grind
     |enter f args=>refine vdm h ?_;intro e w'' j;cases e with|returned v=>grind|panicked c=>cases j.1|outgrown=>obtain⟨g,b,hq⟩:=j;cases hq.1
     |row r args=>grind[Rows.mono]
     | _=>exact h.elim
    |halt x w'=>cases x<;>first|exact h.elim|(cases h.1)
   .cases hq.1
  grind
def DJ{P:cE}{ops:fF}{ks ks':uab}{Q:uae}{a:Act}{w:aR}{l:uac}(h:wpOps P ops (jg (bI P (.inRegion ops []::ks) ks' Q)) l a w):bI P (.inRegion ops l::ks) ks' Q a w:=λb cs=>by obtain⟨a1,w1,h1,h2⟩:=Kl [] l a w h b ks cs;obtain⟨d,c,h3,h4⟩:=h1 b cs;grind[Steps.trans]
def Yy{P:cE}{id n:Nat}{ops:fF}{ks ks':uab}{Q:uae}{a:Act}{w:aR}(hn:ops.size=n)(h:wpOps P ops (jg (bI P (.inRegion ops []::ks) ks' Q)) (List.range' 0 n) a w):bI P (.code (.region id ops false)::ks) ks' Q a w:=uR (DJ (hn▸h))
theorem vW{P:cE}{ops:fF}{ks ks':uab}{Q:uae}{a:Act}{w:aR}(h:bI P ks ks' Q a w):wpOps P ops (jg (bI P (.inRegion ops []::ks) ks' Q)) [] a w:=⟨Y,xW h⟩
theorem ej{a:Act}{t:Nat}{v}(h:a.tmps[t]?=some v):a.eval (.tmp t)=v:=by simp[Act.eval,h]
theorem hQ{a:Act}{t s:Nat}{v}(h:t≠s):(a.put (some t) v).tmps[s]?=a.tmps[s]?:=by simp[Act.put,h]
theorem nw{a:Act}{t v}(h:t<a.tmps.size):(a.put (some t) v).tmps[t]?=some v:=by simp[Act.put,h]
end
open RowKit
structure bg where
 R:aR->Value->Prop
 jS:uV R
 ok:Nat->Prop
 f7:∀n,ok n->kY n R
def Kq(n:Nat):List (Nat×bg)->Prop
 | []=>True
 |p::l=>p.2.ok n/\Kq n l
abbrev b6:=Nat->Option bg
def up(K:b6)(s:Nat)(F:bg):b6:=λi=>if i=s then some F else K i
def bh:List (Nat×bg)->b6
 | [],_=>none
 |p::l,s=>if s=p.1 then some p.2 else bh l s
structure ak(N:Nat)(K:b6)(a:Act)(w:aR):Prop where
 size:a.tmps.size=N
 has:∀s F,K s=some F->∃v,a.tmps[s]?=some v/\F.R w v
def Om(K:b6):List (Nat×bg)->Prop
 | []=>True
 |p::l=>K p.1=some p.2/\Om K l
theorem Yw{K}:∀{l:List (Nat×bg)},Om K l->∀s F,bh l s=some F->K s=some F
 | [],_,_,_,h=>I5
 |p::l,hi,s,F,h=>by
  unfold bh at h;split at h
  .rename_i e;rw[e,<-h];exact hi.1
  .exact Yw hi.2 s F h
theorem jT{n}:∀{l:List (Nat×bg)},Kq n l->∀s F,bh l s=some F->F.ok n
 | [],_,_,_,h=>I5
 |p::l,hi,s,F,h=>by
  unfold bh at h;split at h
  .cases h;exact hi.1
  .exact jT hi.2 s F h
section
variable{N:Nat}{K K':b6}{a:Act}{w w1:aR}
def ak.sub(h:ak N K a w)(hs:∀s F,K' s=some F->K s=some F):ak N K' a w:=⟨h.size,λs F e=>h.has s F (hs s F e)⟩
def ak.aT{l}(h:ak N K a w)(hs:Om K l):ak N (bh l) a w:=h.sub (Yw hs)
theorem ak.jS(h:ak N K a w)(b:c6 w w1):ak N K a w1:=⟨h.size,λs F e=>by
 obtain⟨v,h1,h2⟩:=h.has s F e;exact⟨v,h1,F.jS _ _ _ b h2⟩⟩
theorem ak.put(h:ak N K a w){s}(hs:s<N)(b:c6 w w1){F v}(hv:F.R w1 v):ak N (up K s F) (a.put (some s) v) w1:=by
 refine⟨Fh,λi G e=>?_⟩;unfold up at e;split at e
 .rename_i hi;cases e;subst hi;exact⟨v,nw (by rw[h.size];exact hs),hv⟩
 .rename_i hi;obtain⟨x,h1,h2⟩:=h.has i G e;exact⟨x,(hQ (Ne.symm hi)).trans h1,G.jS _ _ _ b h2⟩
def kZ n(hok:∀s F,K s=some F->F.ok n):o9 n (ak N K):=by intro ρ a a' w w' c b h;refine⟨by rw[<-b.size];exact h.size,λs F e=>?_⟩;obtain⟨v,h1,h2⟩:=h.has s F e;obtain⟨v',h3,h4⟩:=b.some h1;exact⟨v',h3,F.f7 _ (hok s F e) _ _ _ _ _ c h4 h2⟩
end
def bw(K:b6):Operand->bg->Prop
 | .tmp s,F=>K s=some F
 | .const v,F=>∀w,F.R w v
 | _,_=>False
def ak.ev{N:Nat}{K:b6}{a:Act}{w:aR}(h:ak N K a w){x:uam}{F:bg}(b:bw K x F):F.R w (a.eval x):=by
 cases x with
 |tmp s=>obtain⟨v,h1,h2⟩:=h.has s F b;grind[ej]
 |const v=>exact b w
 | _=>exact b.elim
def Hi(P:cE)(o:Oper)(F:bg)(a:Act)(w:aR):Prop:=
 (∃v w1,(execOp a.eval o).run P w=.ok (.value v) w1/\F.R w1 v/\c6 w w1)\/∃f args,(execOp a.eval o).run P w=.ok (.enter f args) w/\Calls P f args w λe w'=>∃v,e=.returned v/\F.R w' v/\c6 w w'
def bU(P:cE)(N:Nat)(K:b6)(o:Oper)(F:bg):Prop:=∀a w,ak N K a w->Hi P o F a w
def Ys{P:cE}{ops:fF}{i s:Nat}{o:Oper}{F:bg}{a:Act}{w:aR}(c:ops[i]?=some o)(b:vfe o ops a.tmps=true)(hd:o.dst=some s)(h:Hi P o F a w):wpOps P ops (jg λa1 w1=>(∃v,a1=a.put (some s) v/\F.R w1 v)/\c6 w w1) [i] a w:=by
 rcases h with⟨v,w1,h1,h2,h3⟩|⟨f,args,h1,h2⟩
 .grind[ab8]
 .refine ab9 c b hd h1 (h2.mono ?_);grind
def bG(n:Int):bg:=⟨eO (.I n),uV.eq _,λ_=>True,λ_ _=>Bn _ _⟩
def dt(b:Bool):bg:=⟨eO (.bool b),uV.eq _,λ_=>True,λ_ _=>aqJ _⟩
def mT:bg:=⟨eO undef,uV.eq _,λ_=>True,λ_ _=>aqK⟩
def Bp(s:ByteArray):bg:=⟨eO (.string s),uV.eq _,λ_=>True,λ_ _ _ _ _ _ _ _ hv h=>by cases h;cases hv;rfl⟩
def ig(v:Value):bg:=⟨eO v,uV.eq _,λ_=>False,λ_ h=>h.elim⟩
def rI(ops:fF)(K:b6)(o:Oper)(c:Bool):Prop:=
 match o.guard with
 |none=>c=true
 |some (g,b)=>∃d,(ops[g]?).bind (·.dst)=some d/\((∃x,K d=some (dt x)/\c=(x==b))\/K d=some mT/\c=false)
def rI.is{ops K o c N a w}(h:rI ops K o c)(hk:ak N K a w):vfe o ops a.tmps=c:=by
 unfold rI at h;split at h
 .grind[xX]
 .rename_i g b e;obtain⟨d,h1,⟨x,h2,rfl⟩|⟨h2,rfl⟩⟩:=h
  .obtain⟨v,h3,h4⟩:=hk.has d _ h2;cases h4;exact aqL e h1 h3
  .obtain⟨v,h3,h4⟩:=hk.has d _ h2;cases h4;exact aqM e h1 h3
def On(P:cE)(N:Nat)(ops:fF)(K:b6)(o:Oper)(F:bg):Prop:=(rI ops K o true/\bU P N K o F)\/(rI ops K o false/\F=mT)
theorem On.step{P}{N:Nat}{ops K o F}(h:On P N ops K o F){a w}{i s:Nat}(hk:ak N K a w)(b:ops[i]?=some o)(hd:o.dst=some s):wpOps P ops (jg λa1 w1=>(∃v,a1=a.put (some s) v/\F.R w1 v)/\c6 w w1) [i] a w:=by
 rcases h with⟨h1,h2⟩|⟨h1,rfl⟩
 .exact Ys b (h1.is hk) hd (h2 a w hk)
 .exact ab_ b (h1.is hk) hd ⟨⟨undef,Y,Y⟩,vaa _ _⟩
def tP(P:cE)(N:Nat)(ops:fF):List Oper->b6->b6->Prop
 | [],K,K'=>K=K'
 |o::l,K,K'=>∃d,o.dst=some d/\d<N/\∃F,On P N ops K o F/\tP P N ops l (up K d F) K'
def ap{P:cE}{N:Nat}{ops:fF}{o:Oper}{l:ubc}{K K':b6}{d:Nat}{F:bg}(hd:o.dst=some d)(a:bU P N K o F)(h:tP P N ops l (up K d F) K')(hg:o.guard=none:=by rfl)(a5:d<N:=by decide):tP P N ops (o::l) K K':=⟨d,hd,a5,F,.inl ⟨Gv,a⟩,h⟩
def bP{P:cE}{N:Nat}{ops:fF}{o:Oper}{l:ubc}{K K':b6}{d g t:Nat}{b:Bool}{F:bg}(hd:o.dst=some d)(a:bU P N K o F)(h:tP P N ops l (up K d F) K')(a5:d<N:=by decide)(hg:o.guard=some (g,b):=by rfl)(ht:(ops[g]?).bind (·.dst)=some t:=by rfl)(hk:K t=some (dt b):=by rfl):tP P N ops (o::l) K K':=⟨d,hd,a5,F,.inl ⟨Gv,a⟩,h⟩
def lX{P:cE}{N:Nat}{ops:fF}{o:Oper}{l:ubc}{K K':b6}{d g t:Nat}{b c:Bool}(hd:o.dst=some d)(h:tP P N ops l (up K d mT) K')(a5:d<N:=by decide)(hg:o.guard=some (g,b):=by rfl)(ht:(ops[g]?).bind (·.dst)=some t:=by rfl)(hk:K t=some (dt c):=by rfl)(a:(c==b)=false:=by rfl):tP P N ops (o::l) K K':=⟨d,hd,a5,mT,.inr ⟨Gv,Y⟩,h⟩
theorem Oo{P:cE}{N:Nat}{ops:fF}{Q:uao}{rest:uac}:∀{l:ubc}{i:Nat}{K K':b6}{a:Act}{w:aR},tP P N ops l K K'->(∀j o,l[j]?=some o->ops[i+j]?=some o)->ak N K a w->(∀a' w',ak N K' a' w'->a'.defers=a.defers->c6 w w'->wpOps P ops Q rest a' w')->wpOps P ops Q (List.range' i l.length++rest) a w
 | [],i,K,K',a,w,h,_,hk,k=>by cases h;grind[Below.refl]
 |o::l,i,K,K',a,w,⟨d,hd,a5,F,c,h⟩,hi,hk,k=>by rw[vdg,List.range'_succ,veg];refine mS (c.step hk (hi 0 o Y) hd) ?_;rintro a1 w1 ⟨⟨v,rfl,hv⟩,b⟩;refine Oo h (λj o' e=>by have:=hi (j+1) o' AA;grind) (hk.put a5 b hv) λa' w' h1 h2 h3=>k a' w' h1 (h2.trans (put_defers _ _ _)) (b.trans (h3.mono b.size))
def dl{P N id ops ks ks' Q K K' a w}(hk:ak N K a w)(h:tP P N ops ops.toList K K')(k:∀a' w',ak N K' a' w'->a'.defers=a.defers->c6 w w'->bI P ks ks' Q a' w'):bI P (.code (.region id ops false)::ks) ks' Q a w:=by refine Yy (n:=ops.toList.length) AS ?_;rw[<-vdc (List.range' 0 ops.toList.length)];grind[Oo,vW]
def vX(K:b6)(ops:fF)(acc:b6)(o:Oper):b6:=λs=>
 match o.after.toList.find? (λe=>Region.binds .any e&&((ops[e.on]?).bind (·.dst)==some s))with
 |some e=>acc e.on
 |none=>K s
def zh(sL:Nat->Oper->Option Nat)(bx:ube)(X:Nat->b6->Oper->bg->Prop)(N:Nat):List Oper->Nat->b6->b6->b6->Prop
 | [],_,_,g8,K'=>g8=K'
 |o::l,j,acc,g8,K'=>∃d,sL j o=some d/\d<N/\∃F,X j acc o F/\zh sL bx X N l (j+1) (up acc j F) (if bx j then up g8 d F else g8) K'
abbrev Bq(P:cE)(N:Nat)(ops:fF)(K:b6):List Oper->Nat->b6->b6->b6->Prop:=zh (λ_ o=>o.dst) (λ_=>true) (λ_ acc o=>On P N ops (vX K ops acc o) o) N
section
variable{P:cE}{N:Nat}{ops:fF}{K:b6}{o:Oper}{l:ubc}{j:Nat}{acc g8 K':b6}{d:Nat}{F:bg}
def dq(hd:o.dst=some d)(a:bU P N (vX K ops acc o) o F)(h:Bq P N ops K l (j+1) (up acc j F) (up g8 d F) K')(hg:o.guard=none:=by rfl)(a5:d<N:=by decide):Bq P N ops K (o::l) j acc g8 K':=⟨d,hd,a5,F,.inl ⟨Gv,a⟩,h⟩
def eA{g t:Nat}{b:Bool}(hd:o.dst=some d)(a:bU P N (vX K ops acc o) o F)(h:Bq P N ops K l (j+1) (up acc j F) (up g8 d F) K')(a5:d<N:=by decide)(hg:o.guard=some (g,b):=by rfl)(ht:(ops[g]?).bind (·.dst)=some t:=by rfl)(hk:vX K ops acc o t=some (dt b):=by rfl):Bq P N ops K (o::l) j acc g8 K':=⟨d,hd,a5,F,.inl ⟨Gv,a⟩,h⟩
def pK{g t:Nat}{b c:Bool}(hd:o.dst=some d)(h:Bq P N ops K l (j+1) (up acc j mT) (up g8 d mT) K')(a5:d<N:=by decide)(hg:o.guard=some (g,b):=by rfl)(ht:(ops[g]?).bind (·.dst)=some t:=by rfl)(hk:vX K ops acc o t=some (dt c):=by rfl)(a:(c==b)=false:=by rfl):Bq P N ops K (o::l) j acc g8 K':=⟨d,hd,a5,mT,.inr ⟨Gv,Y⟩,h⟩
theorem zh.all{sL f X}:∀{l:ubc}{j:Nat}{acc g8:b6},zh sL f X N l j acc g8 K'->∃dh:Nat->bg,(∀i o,l[i]?=some o->∃d,sL (j+i) o=some d/\d<N/\X (j+i) (λs=>if j<=s/\s<j+i then some (dh s)else acc s) o (dh (j+i)))/\∀s F,K' s=some F->(∃i o,l[i]?=some o/\sL (j+i) o=some s/\F=dh (j+i)/\f (j+i)=true)\/g8 s=some F
 | [],j,acc,g8,h=>by cases h;exact⟨λ_=>mT,λi o hi=>AA,λs F h=>.inr h⟩
 |o::l,j,acc,g8,⟨d,hd,a5,F,q,h⟩=>by
  obtain⟨dh,h1,h2⟩:=zh.all h;refine⟨λs=>if s=j then F else dh s,λi o' hi=>?_,λs G n=>?_⟩
  .cases i with
   |zero=>simp at hi;subst hi;refine⟨d,hd,a5,?_⟩;have e:(λs=>if j<=s/\s<j+0 then some (if s=j then F else dh s)else acc s)=acc:=funext λs=>vby AQ;grind
   |succ i=>
    have a:j+1+i=j+(i+1):=AQ;obtain⟨p,c,b,m⟩:=h1 i o' AA;refine⟨p,a▸c,b,?_⟩;have e:(λs=>if j<=s/\s<j+(i+1)then some (if s=j then F else dh s)else acc s)=(λs=>if j+1<=s/\s<j+1+i then some (dh s)else up acc j F s):=funext λs=>by grind[up]
    grind
  .rcases h2 s G n with⟨i,o',c,b,m,g⟩|k
   .have a:j+1+i=j+(i+1):=by omega
    exact .inl ⟨i+1,o',AA,a▸b,AA,a▸g⟩
   .split at k
    .unfold up at k;split at k
     .rename_i hk e;cases k;exact .inl ⟨0,o,Y,AA,AS,hk⟩
     grind
    .exact .inr k
end
def pL(n i:Nat):Array Bool:=((List.range n).map λj=>decide (j<i)).toArray
def aqO{n i j}(h:j<n):(pL n i).getD j false=decide (j<i):=by simp[pL,Array.getD,h]
theorem Yq{n i}(h:i<n):(pL n i).setIfInBounds i true=pL n (i+1):=by
 apply vcm;intro j;rw[vam];by_cases e:i=j
 .grind[pL]
 .rw[vby e];grind[pL]
theorem aqP{n}:∀{m:Nat},m<=n->(pL n m).toList.count false=n-m:=by
 have key:∀k m,m<=n->n-m=k->(pL n m).toList.count false=k:=by intro k;induction k with|zero=>grind[List.count_eq_zero,pL]|succ k a=>intro m h1 h2;have h3:=count_set (ar:=pL n m) (i:=m) (by simp[pL,Array.getD];omega);grind[Yq]
 grind
structure Hj(N:Nat)(ops:fF)(K:b6)(dh:Nat->bg)(ar:uap)(a:Act)(w:aR):Prop where
 len:ar.size=ops.size
 base:ak N K a w
 val:∀(j:Nat) o d,ops[j]?=some o->o.dst=some d->ar.getD j false=true->∃v,a.tmps[d]?=some v/\(dh j).R w v
structure Kr(N m:Nat)(ops:fF)(K:b6)(dh:Nat->bg)(D:List Deferred)(k0:aR)(ar:uap)(a:Act)(w:aR):Prop extends Hj N ops K dh ar a w where
 defers:a.defers=D
 UI:c6 k0 w
 most:∀j,ar.getD j false=true->j<m
 down:∀(j:Nat) o,ops[j]?=some o->ar.getD j false=true->∀e∈o.after,Region.binds .any e=true->ar.getD e.on false=true
def Hj.env{N ops K dh ar a w}(h:Hj N ops K dh ar a w){o acc}(f:∀s F,acc s=some F->F=dh s)(d:∀e∈o.after,Region.binds .any e=true->ar.getD e.on false=true):ak N (vX K ops acc o) a w:=by
 refine⟨h.base.size,λs F e=>?_⟩;unfold vX at e;split at e
 .rename_i x b;have h1:=List.find?_some b;have h2:=List.mem_of_find?_eq_some b;simp at h1;have hF:=f _ _ e;subst hF;cases c:ops[x.on]? with|none=>grind|some o'=>simp[c]at h1;exact h.val _ o' s c h1.2 (d x AA h1.1)
 .exact h.base.has s F e
theorem Hj.put{N:Nat}{ops:fF}{K:b6}{dh:Nat->bg}{ar:uap}{a:Act}{w w1:aR}(h:Hj N ops K dh ar a w){j:Nat}{o:Oper}{d:Nat}(q:ops[j]?=some o)(hd:o.dst=some d)(a5:d<N)(hK:K d=none)(n:∀i o',ops[i]?=some o'->o'.dst=some d->ar.getD i false=true->i=j)(l:c6 w w1){v:Value}(hv:(dh j).R w1 v):Hj N ops K dh (ar.setIfInBounds j true) (a.put (some d) v) w1:=by
 have r:j<ar.size:=G4;refine⟨Cp,⟨by rw[jR];exact h.base.size,λs F e=>?_⟩,λi o' m f c p=>?_⟩
 .obtain⟨x,k,g⟩:=h.base.has s F e;have b:d≠s:=λx=>AA;exact⟨x,(hQ b).trans k,F.jS _ _ _ l g⟩
 .by_cases e:i=j
  .subst e;rw[q]at f;cases f;rw[hd]at c;cases c;exact⟨v,nw (by rw[h.base.size];exact a5),hv⟩
  .have hi:=((lW r).1 p).resolve_left e;obtain⟨x,k,g⟩:=h.val i o' m f c hi;have b:d≠m:=λx=>by subst x;exact e (n i o' f c hi)
   exact⟨x,(hQ b).trans k,(dh i).jS _ _ _ l g⟩
def xY(ops:fF)(j i:Nat):Bool:=match ops[j]? with|some o=>o.after.any λe=>Region.binds .any e&&e.on==i|none=>false
def qE(K:b6)(l:ubc):Bool:=l.all λo=>match o.dst with|some d=>(K d).isNone|none=>true
def Oq(ops:fF)(m:Nat):Bool:=
 decide (m<=ops.size)&&
 ((List.range m).all λi=>(List.range m).all λj=>i==j||(ops[i]?).bind (·.dst) != (ops[j]?).bind (·.dst))&&
 ((List.range m).all λi=>m==ops.size||(List.range (m+1)).any λj=>decide (i<j)&&xY ops j i)&&
 ((List.range ops.size).all λj=>decide (j<=m)||(List.range ops.size).any λe=>decide (m<=e)&&xY ops j e)&&
 ((List.range ops.size).all λj=>match ops[j]? with|some o=>o.after.all λe=> !Region.binds .any e||decide (e.on<j)|none=>true)&&
 ((List.range (ops.size+1)).all λj=>decide (j<m)||Region.ready .any ops (pL ops.size j)==if j<ops.size then [j]else [])
section
variable{ops:fF}{m:Nat}
structure Shape(ops:fF)(m:Nat):Prop where
 le:m<=ops.size
 one:∀(i j:Nat) o o' d,i<m->j<m->ops[i]?=some o->ops[j]?=some o'->o.dst=some d->o'.dst=some d->i=j
 aqQ:m<ops.size->∀i,i<m->∃j,i<j/\j<=m/\xY ops j i=true
 far:∀j,j<ops.size->m<j->∃e,m<=e/\xY ops j e=true
 o_:(List.range ops.size).all (λj=>match ops[j]? with|some o=>o.after.all λe=> !Region.binds .any e||decide (e.on<j)|none=>true)=true
 next:∀j,m<=j->j<=ops.size->Region.ready .any ops (pL ops.size j)=if j<ops.size then [j]else []
theorem Shape.of(h:Oq ops m=true):Shape ops m:=by
 unfold Oq at h;simp only[vag,vdh,vdx,vem,vew,beq_iff_eq,bne_iff_ne,List.any_eq_true]at h;obtain⟨⟨⟨⟨⟨h1,h2⟩,h3⟩,h4⟩,k⟩,g⟩:=h;refine⟨h1,λi j o o' d hi b e f hd c=>?_,λa i hi=>?_,λj b a=>?_,?_,λj a b=>?_⟩
 .grind
 .grind
 .grind
 .grind
 grind
theorem Ks{j i}(h:xY ops j i=true):∃o,ops[j]?=some o/\∃e∈o.after,Region.binds .any e=true/\e.on=i:=by grind[xY]
variable{P:cE}{N:Nat}{K K':b6}{dh:Nat->bg}{D:List Deferred}{k0:aR}{ar:uap}{a:Act}{w w1:aR}{Q:uao}
theorem Kr.put(h:Kr N m ops K dh D k0 ar a w)(hK:qE K (ops.toList.take m)=true)(q:Shape ops m){j:Nat}{o}{d:Nat}(r:j<m)(k:ops[j]?=some o)(hd:o.dst=some d)(a5:d<N)(t:∀e∈o.after,Region.binds .any e=true->ar.getD e.on false=true)(l:c6 w w1){v}(hv:(dh j).R w1 v):Kr N m ops K dh D k0 (ar.setIfInBounds j true) (a.put (some d) v) w1:=by
 have c:j<ar.size:=G4;refine⟨h.toHj.put k hd a5 (by cases s:K d with|none=>rfl|some F=>grind[qE,List.mem_take_iff_getElem]) (λi o' f n b=>q.one i j o' o _ (h.most i b) r f k n hd) l hv,Hy,h.UI.trans (l.mono h.UI.size),λi hi=>?_,λi o' f b e p g=>?_⟩
 .rcases(lW c).1 hi with rfl|hi
  .grind
  .exact h.most i hi
 .refine(lW c).2 (.inr ?_);rcases(lW c).1 b with rfl|hi
  .grind
  .exact h.down i o' f hi e p g
theorem Yp(d:Shape ops m):∀(k j fuel:Nat)(a:Act)(w:aR),m<=j->j+k=ops.size->k<=fuel->wpOps P ops Q (List.range' j k) a w->wpAny P .any ops Q fuel (pL ops.size j) a w
 |0,j,fuel,a,w,c,g,_,h=>by have b:=d.next j c AQ;rw[vby AQ]at b;cases fuel with|zero=>exact⟨b,h⟩|succ fuel=>exact⟨λ_=>h,λi hi=>AA⟩
 |k+1,j,fuel,a,w,c,g,n,h=>by have b:=d.next j c AQ;rw[vca AQ]at b;obtain⟨fuel,rfl⟩:∃f,fuel=f+1:=⟨fuel-1,AQ⟩;refine⟨λe=>(by rw[b]at e;cases e),λi hi=>?_⟩;rw[b]at hi;simp at hi;subst hi;rw[List.range'_succ,wpOps_cons]at h;rw[Yq AQ];exact wpOp_mono (λa w l=>Yp d k (i+1) fuel a w AQ AQ AQ l) h
def aqR{id n}(h:Bq P N ops K (ops.toList.take m) 0 (λ_=>none) K K')(hk:ak N K n k0)(hK:qE K (ops.toList.take m)=true)(M:P.follows .mixedOrders=true)(R:Oq ops m=true)(k:∀a' w',ak N K' a' w'->a'.defers=n.defers->c6 k0 w'->wpOps P ops Q (List.range' m (ops.size-m)) a' w'):(Code.region id ops true).wp P Q n k0:=by
 have b:=Shape.of R;obtain⟨dh,h1,h2⟩:=zh.all h;refine wp_region_any M ?_;have dF:∀fuel(ar:uap) a w,ar.toList.count false<=fuel->Kr N m ops K dh n.defers k0 ar a w->(∀j,j<m->ar.getD j false=true)->wpAny P .any ops Q fuel ar a w:=λfuel ar a w T h z=>by
  have e:ar=pL ops.size m:=by
   apply Array.ext (by rw[h.len];simp[pL]);intro j h1 h2;have h3:(pL ops.size m).getD j false=decide (j<m):=aqO (by rw[<-h.len];exact h1);have h4:ar.getD j false=decide (j<m):=by
    by_cases f:j<m
    .grind
    .cases t:ar.getD j false with|false=>grind|true=>exact absurd (h.most j t) f
   simp_all
  subst e;refine Yp b (ops.size-m) m fuel a w JR (by have:=b.le;omega) (by grind[aqP]) (k a w ⟨h.base.size,λs F e=>?_⟩ h.defers h.UI);rcases h2 s F e with⟨i,o,S,I,rfl,-⟩|k
  .rw[vbs];have D:ops[i]?=some o/\i<m:=by grind
   exact h.val i o s D.1 I (z i D.2)
  .exact h.base.has s F k
 have key:∀(fuel:Nat)(ar:uap)(a:Act)(w:aR),ar.toList.count false<=fuel->Kr N m ops K dh n.defers k0 ar a w->wpAny P .any ops Q fuel ar a w:=by
  intro fuel;induction fuel with
  |zero=>
   intro ar a w E h;refine dF 0 ar a w E h λj f=>?_;have:¬ar.getD j true=false:=λe=>by grind[count_set]
   have:j<ar.size:=by rw[h.len];have:=b.le;omega
   grind
  |succ fuel J=>
   intro ar a w E h;by_cases z:∀j,j<m->ar.getD j false=true
   .grind
   have step:∀i,i∈Region.ready .any ops ar->i<m:=λi hi=>by
    obtain⟨g1,o,l,u⟩:=mem_ready.1 hi;apply vaz;intro r;have q:i<ops.size:=(vao.1 l).1;rcases vdz m i with p|p
    .obtain⟨e,U,O⟩:=b.far i q p;obtain⟨o',y,x,c,g,rfl⟩:=Ks O;rw[l]at y;cases y;have:=h.most _ (u x c g);omega
    .obtain rfl:i=m:=by omega
     refine z λj f=>?_;have key:∀d j,i-j<=d->j<i->ar.getD j false=true:=by
      intro d;induction d with
      |zero=>grind
      |succ d C=>
       intro j h1 h2;obtain⟨A,aZ,a3,q3⟩:=b.aqQ q j h2;obtain⟨o',y,x,c,g,rfl⟩:=Ks q3;rcases vdz A i with q4|q4
       .exact h.down A o' y (C A AQ q4) x c g
       grind
     exact key _ j JR f
   have B:Region.ready .any ops ar≠[]:=λL=>z λj f=>UB b.o_ h.len L j (by have:=b.le;omega);refine⟨λe=>absurd e B,λi hi=>?_⟩;have r:=step i hi;obtain⟨g1,o,l,u⟩:=mem_ready.1 hi;obtain⟨d,hd,a5,c⟩:=h1 i o AA;rw[vbs]at c;refine aqN (c.step (h.env (λs F e=>?_) u) l hd) ?_
   .grind
   .rintro a1 w1 ⟨⟨v,rfl,hv⟩,g⟩;exact J _ _ _ (by grind[count_set]) (h.put hK b r l hd a5 u g hv)
 have H:c6 k0 {k0 with drawn:=k0.drawn+1}:=⟨Y,Y,Y,vac _,λ_ _=>Y⟩;refine key _ _ _ _ AS ⟨⟨AS,hk.jS H,λj o d _ _ t=>?_⟩,Y,H,λj t=>?_,λj o _ t=>?_⟩;all_goals grind[Ol]
def Kt{id ks ks' Q}(hk:ak N K a w)(h:Bq P N ops K (ops.toList.take m) 0 (λ_=>none) K K')(hK:qE K (ops.toList.take m)=true)(b:P.follows .mixedOrders=true)(c:Oq ops m=true)(k:∀a' w',ak N K' a' w'->a'.defers=a.defers->c6 w w'->wpOps P ops (jg (bI P ks ks' Q)) (List.range' m (ops.size-m)) a' w'):bI P (.code (.region id ops true)::ks) ks' Q a w:=DG (aqR h hk hK b c k)
end
end aV
namespace oB
open Conc ConcM av bj ah hO fH iu cV
abbrev eU:fz where
 Lo:=Unit
 aQ:=Unit
 a7:=λ_=>0
 qu:=λ_ ls=>ls.length=1
 ey:=λ_ _ _=>True
 K:=λ_=>False
 ia:=λ_=>False
 uy:=λ_ _=>True
 tok:=λ_=>false
 deaf:=λ_=>0
 past:=λ_=>false
 Left:=λ_=>False
 zero:=λ_=>False
 oX:=λ_ _=>False
 h_:=λ_=>False
 fj:=λ_=>False
 mu:=⟨0,0,none⟩
 wg:=⟨0,0,none⟩
 py:=λ_ _ _=>False
def uX:eU.Good where
 refl:=AA
 trans:=AA
 less:=AA
 mt:=AA
 oo:=AA
 one:=AA
 q1:=λ_ ls h=>⟨0,(),by
  grind,λh=>h,λh=>h⟩
 zero:=AA
 GY:=AA
 C2:=AA
 ux:=AA
section
variable{P:cE}{Shun:ual}{Stop:uax}{d:Nat}
theorem Ye{mine B}:∀(es:ubk)d,pz eU () mine d es->(∀e∈es,¬xC eU e)->(∀b,mine b->∀l,fy l=some b->¬Shun l)->(∀b,mine b->b<B)->(∀e∈es,pJ Shun B e)/\∀k,deafBehind k es.toArray=k
 | [],_,_,_,_,_=>⟨AS,λ_=>Y⟩
 |e::es,d,h,g,hs,i=>by
  obtain⟨n,j⟩:=Ye es _ h.2 AA hs i;have h1:=h.1;have c:=g e AS;have hk:yz (λ_=>False) mine e:=by
   unfold uz at h1;unfold yz;cases f:e.loc with
   |cell a=>grind
   |obj r=>grind
   |output=>trivial
   |goroutines=>grind
   |mark m=>
    rw[f]at h1;rcases h1 with h1|⟨h1,_⟩
    .cases m with|noRoom=>trivial|extern _=>trivial|disable=>exact absurd (.inl f) c|enable=>exact absurd (.inr (.inl f)) c| _=>exact h1.elim
    grind
  refine⟨λq p=>?_,λk=>?_⟩
  .grind[abQ]
  .have e1:deafBehind k (e::es).toArray=deafBehind (deafBehind k #[e]) es.toArray:=by simp[deafBehind]
   have e2:deafBehind k #[e]=k:=by
    obtain⟨loc,wr,o⟩:=e;cases loc with
    |mark m=>cases m<;>first|exact hk.elim|rfl
    | _=>rfl
   grind
def aq7{ST m l γ X}(h:bc eU P ST m l γ X):m=true->(∀b,X.mine b->b<X.w.heap.size)->(∀b,X.mine b\/X.w.heap.size<=b->∀l,fy l=some b->¬Shun l)->
 (∀Y,ST true () Y->cV.Left X Y->e8 P Shun Stop d Y.g Y.w)->e8 P Shun Stop d X.g X.w:=by
 induction h with
 |@stop m l γ X h=>rintro rfl _ _ k;exact k X h ⟨λ_ h=>h,λ_ _ _=>rfl,AA,vac _,.refl _,rfl,rfl,id⟩
 |@step m l γ X hs ch ok hq i t u r y x o=>
  rintro rfl v w k;refine e8.mk hs λn=>?_;have hrel:ep eU l γ X (X.w.at n):=⟨⟨λ_ _=>rfl,vac _,.refl _⟩,NE,⟨[l],0,rfl,rfl⟩,.refl _,rfl,rfl⟩;rcases ok (X.w.at n) γ trivial hrel with⟨g1,w1,es,e,q⟩|⟨g1,w1,es,e,q,_⟩|⟨_,_,q,_⟩|⟨_,g1,c,w1,es,e,q⟩
  .have hsz:X.w.heap.size<=w1.heap.size:=q.keep.size;have j:∀b,grown X.mine (X.w.at n) w1 b->X.mine b\/(X.w.heap.size<=b/\b<w1.heap.size):=λb h=>h;have p:∀b,grown X.mine (X.w.at n) w1 b->∀l,fy l=some b->¬Shun l:=AA;have f:∀b,grown X.mine (X.w.at n) w1 b->b<w1.heap.size:=AA;obtain⟨h1,h2⟩:=Ye (Shun:=Shun) (B:=w1.heap.size) es.toList 0 q.evs (λe i s=>q.low (.inl AA)) p f;refine⟨g1,w1,es,e,AA,hsz,?_⟩;have e2:deafBehind d es=d:=h2 d;rw[e2];refine r (X.w.at n) γ g1 w1 es trivial hrel e q.run q.low rfl f AA (λY g a=>k Y g ?_);refine⟨λb h=>a.sub b (.inl h),λb h1 h2=>(a.kept b AA λh=>?_).trans (q.keep.kept b h1 h2 Ke),λb h=>?_,vad hsz a.size,(show OsLater X.w.os w1.os from q.keep.os).trans a.os,a.output.trans q.keep.output,a.tape.trans q.keep.tape,λ_=>a.run q.run⟩
   .grind
   .rcases a.new b h with h|h
    .rcases j b h with h|h
     .grind
     .exact .inr ⟨h.1,vak h.2 a.size⟩
    grind
  .exact absurd q.A6.1 AA
  .grind
  .exact absurd q.a7 AA
end
end oB
namespace oB
open Conc ConcM av bj ah hO fH iu
section
section
variable{Z:fz}{Q:cE}{Stop:Bool->Z.Lo->a0->Prop}{m:Bool}{b:Frame}{ops:fF}{l:Z.Lo}{M:dL}{w0:aR}{bs:uar}
def jy(Z:fz)(l:Z.Lo)(M:dL)(w0:aR)(bs:uar):de Z:=⟨l,cv M bs,λw _=>ak Z M w0 bs w⟩
def Oz:tv (jy Z l M w0 bs):=λ_ _ _ _ _ h _ a=>ak.on h (ep.rw a)
def DS(x:ubt)(M:dL)(w0:aR)(bs:uar):Prop:=x∈bs\/(M x.1/\w0.heap[x.1]?=some x.2)
theorem DS.at{x}(h:DS x M w0 bs){w}(hk:ak Z M w0 bs w):cv M bs x.1/\w.heap[x.1]?=some x.2:=by
 rcases h with h|⟨h1,h2⟩
 .exact⟨.inr AA,hk.bO x h⟩
 .exact⟨.inl h1,(hk.rw.heap x.1 (.inr h1)).trans h2⟩
def DS.cons{x y:ubt}(h:DS x M w0 bs):DS x M w0 (y::bs):=h.imp AA id
def OA(Z:fz)(l:Z.Lo)(xs:uar)(σ:de Z):Prop:=∃M w0 bs,(∀x∈xs,DS x M w0 bs)/\σ=jy Z l M w0 bs
def OB{xs}:∀σ,OA Z l xs σ->tv σ:=by rintro _ ⟨M,w0,bs,_,rfl⟩;exact Oz
def aq8{xs}:∀σ,OA Z l xs σ->∀w γ,σ.S w γ->σ.S {w with drawn:=w.drawn+1} γ:=by rintro _ ⟨M,w0,bs,_,rfl⟩ w γ h;exact⟨h.rw.trans ⟨λ_ _=>Y,vac _,.refl _,Y,Y⟩,h.bO,h.lt,h.fA,h.tj,h.bN,h.tz⟩
def Yd(n:Z.past l=false){xs:uar}{z:ubt}(j:z∈xs){o:Oper}{v:Value}{a:Act}(c:vfe o ops a.tmps=true)(h:∀w,w.heap[z.1]?=some z.2->(execOp a.eval o).run Q w=.ok (.value v) w/\∀e∈listed Q b.fn a o w,∃off,e=⟨.cell ⟨z.1,off,none⟩,false,false⟩):ot Q b ops (OA Z l xs) o v a:=by
 refine .inl ⟨c,?_⟩;rintro _ ⟨M,w0,bs,k,rfl⟩ w γ w' t g q p m;have i:=Oz (Z:=Z) (l:=l) w γ w' t g q p m;obtain⟨s,r⟩:=(k z j).at i;obtain⟨h1,h2⟩:=h w' r;refine⟨h1,A7 _ _ λe f d=>?_,?_⟩
 .obtain⟨off,rfl⟩:=h2 e AA;exact .inl ⟨Y,.inr (.inl s),n⟩
 .rintro⟨e,f,c⟩;obtain⟨off,rfl⟩:=h2 e f;rcases c with c|c|⟨_,c⟩|⟨_,c⟩|⟨c,_⟩<;>cases c
def UR(d:∀b,Z.K b->¬Z.ia b){o ob a K}(h:∀w,(execOp a.eval o).run Q w=.ok (.value (.P w.heap.size 0)) (w.alloc ob)/\listed Q b.fn a o w=#[])(k:∀n,K (jy Z l M w0 ((n,ob)::bs)) (a.put o.dst (.P n 0))):Df Q b o (jy Z l M w0 bs) a K:=by
 intro w γ w' m g j i f;have e:ak Z M w0 bs w':=Oz (Z:=Z) (l:=l) w γ w' m g j i f;obtain⟨h1,h2⟩:=h w';refine⟨_,_,jy Z l M w0 ((w'.heap.size,ob)::bs),.inl h1,⟨?_,?_,.inl ⟨Y,e.alloc d ob,λb c _=>Dk c,?_,?_⟩⟩,k _⟩
 .show cv M ((w'.heap.size,ob)::bs)=grown (cv M bs) w' (w'.alloc ob);rw[TN];exact cv.cons.symm
 .exact⟨λb c _ _=>Dk c,BB,.refl _,Y,Y⟩
 .rw[h2];exact trivial
 grind
def US(p:Z.past l=false){pre post:uar}{b0:Nat}{bq new:dX}{t:uaa}{o:Oper}{a:Act}{K:de Z->Act->Prop}(h:∀w,w.heap[b0]?=some (.cells bq t)->(execOp a.eval o).run Q w=.ok .skip (w.setRow b0 new)/\∀e∈listed Q b.fn a o w,∃off,e.loc=.cell ⟨b0,off,none⟩/\e.sync=false)(k:K (jy Z l M w0 (pre++(b0,.cells new t)::post)) (a.put o.dst undef)):Df Q b o (jy Z l M w0 (pre++(b0,.cells bq t)::post)) a K:=by
 intro w γ w' s g r q n;have f:ak Z M w0 (pre++(b0,.cells bq t)::post) w':=Oz (Z:=Z) (l:=l) w γ w' s g r q n;have i:cv M (pre++(b0,.cells bq t)::post) b0:=.inr AS;have v:cv M (pre++(b0,.cells new t)::post)=cv M (pre++(b0,.cells bq t)::post):=by grind[cv]
 obtain⟨h1,h2⟩:=h w' (f.bO (b0,.cells bq t) AS);have hg:grown (cv M (pre++(b0,.cells bq t)::post)) w' (w'.setRow b0 new)=cv M (pre++(b0,.cells bq t)::post):=lq (setRow_size _ _ _);refine⟨_,_,jy Z l M w0 (pre++(b0,.cells new t)::post),AA,⟨?_,?_,.inl ⟨Y,f.row,λb u j=>Bc _ _ ?_,?_,?_⟩⟩,k⟩
 .show cv M (pre++(b0,.cells new t)::post)=grown (cv M (pre++(b0,.cells bq t)::post)) w' (w'.setRow b0 new);grind
 .exact⟨λk _ hk _=>Bc _ _ λe=>hk (e▸i),Nat.le_of_eq (setRow_size _ _ _).symm,.refl _,Y,Y⟩
 .rintro rfl;exact f.fA b (.inr i) j
 .refine A7 _ _ λe m d=>?_;obtain⟨off,e1,e2⟩:=h2 e AA;unfold uz;rw[e1];refine .inl ⟨e2,.inr (.inl ?_),p⟩;show grown (cv M (pre++(b0,.cells bq t)::post)) w' (w'.setRow b0 new) b0;simp_all
 .rintro⟨e,m,c⟩;obtain⟨off,e1,e2⟩:=h2 e m;rcases c with c|c|⟨_,c⟩|⟨_,c⟩|⟨_,k,hk,j⟩
  .grind
  .grind
  .grind
  .grind
  .rw[e1]at hk;cases hk;exact f.fA b0 (.inr i) j
end
end
end oB
abbrev a_{aq:Type}(i:Bool)(a b:aq):aq:=match i with
 |false=>a
 |true=>b
namespace fH
open Conc RowKit ConcM
set_option maxRecDepth 100000
variable{w:aR}{b:Nat}{q r y z:Value}
def asd{t:uaa}{x p:Value}(a:w.heap[b]?=some (.cells #[x,y,z] t)):((w.setCell ⟨b,0,none⟩ p).setCell ⟨b,1,none⟩ q).setCell ⟨b,2,none⟩ r=w.setRow b #[p,q,r]:=by have e0:=setCell_eq_setRow w b 0 #[x,y,z] t (0,0) p a;have b1:=setRow_heap w b #[x,y,z] (#[x,y,z].setIfInBounds 0 p) t (0,0) a;have e1:=setCell_eq_setRow _ b 1 _ t (0,0) q b1;have c:=setRow_heap _ b _ ((#[x,y,z].setIfInBounds 0 p).setIfInBounds 1 q) t (0,0) b1;have e2:=setCell_eq_setRow _ b 2 _ t (0,0) r c;grind[setRow_setRow]
variable{i j:uam}
def qH{x p:Value}(a:w.heap[b]?=some (.cells #[x,y,z] 185))(h:p.oneCell'=true/\q.oneCell'=true/\r.oneCell'=true){ev:uah}(hi:ev i=.P b 0)(d:ev j=.agg #[p,q,r]){o:Oper}(c:o.op=.store 185 i j):
 (execOp ev o).run prog w=.ok .skip (w.setRow b #[p,q,r])/\(execOp ev o).events prog w #[]=#[⟨.cell ⟨b,0,none⟩,true,false⟩,⟨.cell ⟨b,1,none⟩,true,false⟩,⟨.cell ⟨b,2,none⟩,true,false⟩]:=by
 obtain⟨dst,op,ty,pos,f,gd⟩:=o;simp only at c;subst c;have b3:w.cell? (.a b 0)=some x:=C8;have f0:w.frozen? ⟨b,0,none⟩=false:=by simp[World.frozen?,a]
 have e1:(w.setCell ⟨b,0,none⟩ p).heap[b]?=some (.cells #[p,y,z] 185):=by simp[World.setCell,vbh,a]
 have c1:(w.setCell ⟨b,0,none⟩ p).cell? (.a b 1)=some y:=by simp[World.cell?,e1]
 have f1:(w.setCell ⟨b,0,none⟩ p).frozen? ⟨b,1,none⟩=false:=by simp[World.frozen?,e1]
 have e2:((w.setCell ⟨b,0,none⟩ p).setCell ⟨b,1,none⟩ q).heap[b]?=some (.cells #[p,q,z] 185):=by simp_all[World.setCell,vbh]
 have bt:((w.setCell ⟨b,0,none⟩ p).setCell ⟨b,1,none⟩ q).cell? (.a b 2)=some z:=by simp[World.cell?,e2]
 have e:((w.setCell ⟨b,0,none⟩ p).setCell ⟨b,1,none⟩ q).frozen? ⟨b,2,none⟩=false:=by simp[World.frozen?,e2]
 rw[<-asd a];constructor
 .simp[go_sem,hi,d,b3,f0,c1,f1,bt,e,run_store,h]
 .simp[go_sem,hi,d,b3,f0,c1,f1,bt,e,run_store,events_store,h]
def ac1{ev:uah}{p q r:Int}{k:uam}(hi:ev i=.I p)(b:ev j=.I q)(hk:ev k=.I r){o:Oper}(a:o.op=.build 185 #[(0,i),(1,j),(2,k)]):(execOp ev o).run prog w=.ok (.value (.agg #[.I p,.I q,.I r])) w/\(execOp ev o).events prog w #[]=#[]:=by
 obtain⟨dst,op,ty,pos,c,gd⟩:=o;simp only at a;subst a;constructor
 .simp[go_sem,hi,b,hk]
 .simp[go_sem,hi,b,hk]
def Bv{x:Value}(a:w.heap[b]?=some (.cells #[x,y,z] 185)){ev:uah}(hi:ev i=.P b 0){o:Oper}(c:o.op=.load 185 i):
 (execOp ev o).run prog w=.ok (.value (.agg #[x,y,z])) w/\(execOp ev o).events prog w #[]=#[⟨.cell ⟨b,0,none⟩,false,false⟩,⟨.cell ⟨b,1,none⟩,false,false⟩,⟨.cell ⟨b,2,none⟩,false,false⟩]:=by
 obtain⟨dst,op,ty,pos,d,gd⟩:=o;simp only at c;subst c;have b3:w.cell? (.a b 0)=some x:=C8;have c1:w.cell? (.a b 1)=some y:=C8;have bt:w.cell? (.a b 2)=some z:=C8;constructor
 .simp[go_sem,hi,b3,c1,bt]
 .simp[go_sem,hi,b3,c1,bt]
def OI{fn:Func}(c:fn.results=f81.results){x t:Value}{tmps:dX}(a:w.heap[b]?=some (.cells #[x,y,z] 185))(h2:tmps[2]?=some (.P b 0))(h3:tmps[3]?=some t):
 (results fn tmps).run prog w=.ok (.tuple #[.agg #[x,y,z],t]) w/\(results fn tmps).events prog w #[]=#[⟨.cell ⟨b,0,none⟩,false,false⟩,⟨.cell ⟨b,1,none⟩,false,false⟩,⟨.cell ⟨b,2,none⟩,false,false⟩]:=by
 have b3:w.cell? (.a b 0)=some x:=C8;have c1:w.cell? (.a b 1)=some y:=C8;have bt:w.cell? (.a b 2)=some z:=C8;constructor
 .simp[results,c,f81,go_sem,h2,h3,b3,c1,bt]
 .simp[results,c,f81,go_sem,h2,h3,b3,c1,bt]
end fH
namespace iu
open Conc RowKit Conc.Lib ConcR.Gen ConcM av bj ah eK hO fH
section
section
variable{c:dU}{Stop:Bool->ah.Lo At->a0->Prop}{fr aT:uas}{fX:Value}{cJ:uaf}
theorem kX.step(d:∀T v M w M' w',cJ T v M w->(∀b,c.K b\/M b->w'.heap[b]?=w.heap[b]?)->(∀b,M b->M' b)->cJ T v M' w'){q:uad}{M M':dL}{w w':aR}(h:kX c cJ q M w)(a:jf (ao (ay c)) M w M' w'):kX c cJ q M' w':=h.same d a.rw.heap a.sub
section
variable{a2:Frame}{aI:Act}{aC:fF}{aL:Nat}{aO:uac}{aK:uab}{csZ:hH}
def atq i{f M w0 cH}(hI:qA c cH w0)(U:∀T v M w M' w',cJ T v M w->(∀b,c.K b\/M b->w'.heap[b]?=w.heap[b]?)->(∀b,M b->M' b)->cJ T v M' w')(OU:∀q j w1,ak (ao (ay c)) j w1 [] w1->iU prog Stop false (a_ i 81 115) #[.P c.st 0] (gg c ⟨.idle,false,0,f+15,.work .free q⟩ j w1) (λu V=>(u=.tuple #[.agg #[.I 0,.I 0,.I 0],.F]/\V=xN c ⟨.idle,false,0,f+1,.work .free q⟩ j w1)\/∃T,T<c.N/\u=.tuple #[.agg #[.I (T:Int),.I (fr T:Int),.I (aT T:Int)],.T]/\V=gg c ⟨.idle,false,0,f+31,.work (.has T) q⟩ j w1))(Vw:∀q T j w1,T<c.N->qA c cH w1->iU prog Stop false (a_ i 82 116) #[.P c.st 0,fX,.agg #[.I (T:Int),.I (fr T:Int),.I (aT T:Int)]] (gg c ⟨.idle,false,0,f+31,.work (.has T) q⟩ j w1) (λu V=>u=.tuple #[]/\∃v r E,jf (ao (ay c)) j w1 r E/\(c.cq T=false->cJ T v (λb=>r b/\¬j b) E)/\V=gg c ⟨.idle,false,0,f+15,.work .free ((T,v)::q)⟩ r E))(hK:∀q M' w1,jf (ao (ay c)) M w0 M' w1->kX c cJ q M' w1->∀w γ,ak (ao (ay c)) M' w1 [] w->c.N<=γ.am.taken->bc (ao (ay c)) prog Stop false ⟨.idle,false,0,f+1,.work .free q⟩ γ ⟨Conc.G (a2.at (aI.put ((aC[aL]?).bind (·.dst)) (.tuple #[])) (.inRegion aC aO::aK)) csZ,w,M'⟩)n:
 ∀(q:uad)(j:dL)(w1:aR)(bV T:Nat)(dm gB EW W gi gj gl gm gn gp Z X gA gq gr gu jh gv:Value),c.N<=q.length+n->T<c.N->j bV->w1.heap[bV]?=some (Obj.cells #[.I (T:Int),.I (fr T:Int),.I (aT T:Int)] 185)->jf (ao (ay c)) M w0 j w1->kX c cJ q j w1->∀w γ,ak (ao (ay c)) j w1 [] w->bc (ao (ay c)) prog Stop false ⟨.idle,false,0,f+31,.work (.has T) q⟩ γ ⟨Conc.G ((base (a_ i 51 93)).at ⟨#[.P c.st 0,fX,dm,gB,.P bV 0,.T,EW,W,gi,gj,gl,gm,gn,gp,Z,X,gA,gq,gr,gu,jh,gv],[]⟩ [.code ((bQ.dV ((a_ i f51 f93).body.getD .skip)).getD .skip),.inLoop ((bQ.dV ((a_ i f51 f93).body.getD .skip)).getD .skip),.inBlock 0]) (a2.at aI (.inRegion aC (aL::aO)::aK)::csZ),w,j⟩:=by
 cases i<;>dsimp only[a_]
 all_goals
  have kJ:=(dE (bW c)).oo;induction n with|zero=>intro q j w1 bV T dm gB EW W gi gj gl gm gn gp Z X gA gq gr gu jh gv hn hT H J K N w γ hF;refine bc.seen (dE (bW c)) Y λγ _ lB=>?_;have:=apG lB Y;omega|succ n ih=>
  intro q j w1 bV T dm gB EW W gi gj gl gm gn gp Z X gA gq gr gu jh gv hn hT H J K N w γ hF;rw[<-js (M:=j)];refine bf (bW c) ?_;simp only[a_,f51,f93,vaf,bQ.dV]at ih⊢;repeat w_go ak.on
  refine iA Y hF λg d B o a I p s hF=>?_;have m:a.heap[bV]?=some (Obj.cells #[.I (T:Int),.I (fr T:Int),.I (aT T:Int)] 185):=(hF.rw.heap bV (.inr H)).trans J;refine tA AA Y (λb hb=>hF.fA b (.inr hb)) (vbd Y Y An (Bv m Y Y).1) Y (λe C=>?_) ?_
  .have z:=vbt C;rw[(Bv m Y Y).2]at z;simp at z;rcases z with rfl|rfl|rfl<;>exact⟨Y,.inr (.inl H)⟩
  clear m s p o d;refine bf (bW c) ?_;walk_nrm
  repeat w_go ak.on
  refine iA Y hF λg d B o a I p s hF=>?_;have D:=ak.sD hF;rw[js]at D;rw[js];have Vx:=K.now hF;have R:a.heap[bV]?=some (Obj.cells #[.I (T:Int),.I (fr T:Int),.I (aT T:Int)] 185):=(hF.rw.heap bV (.inr H)).trans J;refine NW (σ:=gg c ⟨.idle,false,0,f+31,.work (.has T) q⟩ j a) AA Y Y An (sE (vs:=#[.P c.st 0,fX,.agg #[.I (T:Int),.I (fr T:Int),.I (aT T:Int)]]) Y (by first|exact func82|exact func116) AB Y Cv a) (Vw q T j a hT (hI.more Vx)) D ?_;have Q:=N.step U ⟨λ_ h=>h,hF.rw,D⟩;clear hF K N J s p o d D;rintro u _ ⟨rfl,v,r,E,L,qz,rfl⟩ x eV F;have hF:ak (ao (ay c)) r E [] x:=F;clear F;have P:=L.sub bV H;have J:=L.heap H R;have K:=Vx.trans L;have N:kX c cJ ((T,v)::q) r E:=⟨_,j,λ_ h=>h.1,λb h=>⟨L.sub b h,λk=>k.2 h⟩,qz,Q.same U L.rw.heap (λ_ h=>h)⟩;clear L Vx Q R H qz;simp only[gg];rw[<-js (M:=r)];refine bf (bW c) ?_;walk_nrm
  repeat w_go ak.on
  refine iA Y hF λg d B o a I p s hF=>?_;have m:a.heap[bV]?=some (Obj.cells #[.I (T:Int),.I (fr T:Int),.I (aT T:Int)] 185):=(hF.rw.heap bV (.inr P)).trans J;refine tA AA Y (λb hb=>hF.fA b (.inr hb)) (vbd Y Y An (Bv m Y Y).1) Y (λe C=>?_) ?_
  .have z:=vbt C;rw[(Bv m Y Y).2]at z;simp at z;rcases z with rfl|rfl|rfl<;>exact⟨Y,.inr (.inl P)⟩
  clear m s p o d;refine bf (bW c) ?_;walk_nrm
  repeat w_go ak.on
  refine iA Y hF λg d B o a I p s hF=>?_;refine uE AA kJ Y hF (vbd (v:=.P a.heap.size 0) (w':=a.alloc (Obj.cells #[.I 0,.I 0,.I 0] 185)) Y Y An Ak) Y BP (λA=>?_);clear hF;have hF:=A;clear A s p o d;generalize a.heap.size=t at hF⊢;generalize a.alloc (Obj.cells #[.I 0,.I 0,.I 0] 185)=w3 at hF⊢;refine bf (bW c) ?_;walk_nrm
  repeat w_go ak.on
  refine iA Y hF λg d B o a I p s hF=>?_;have m:=hF.bO (t,.cells #[.I 0,.I 0,.I 0] 185) AS;refine Do AA Y (pre:=[]) (post:=[]) hF (vek (w':=a.setRow t #[.I (T:Int),.I (fr T:Int),.I (aT T:Int)]) Y Y An (qH m ⟨Y,Y,Y⟩ Y Y Y).1) Y (λe C=>?_) (λA=>?_)
  .have z:=vbt C;rw[(qH m ⟨Y,Y,Y⟩ Y Y Y).2]at z;grind
  clear hF;have hF:=A;clear A m s p o d;simp only[vdp]at hF⊢;refine bf (bW c) ?_;walk_nrm
  repeat w_go ak.on
  refine iA Y hF λg d B o a I p s hF=>?_;have D:=ak.sD hF;refine NW (σ:=gg c ⟨.idle,false,0,f+15,.work .free ((T,v)::q)⟩ (cv r [(t,.cells #[.I (T:Int),.I (fr T:Int),.I (aT T:Int)] 185)]) a) AA Y Y An (sE (vs:=#[.P c.st 0]) Y E1 AB Y Cv a) (OU _ _ a D) D ?_;clear s p o d;rintro u _ (⟨rfl,rfl⟩|⟨y,atr,rfl,rfl⟩) x eV F
  .skip
   have a5:c.N<=eV.am.taken:=F.2;have S:ak (ao (ay c)) (cv r [(t,.cells #[.I (T:Int),.I (fr T:Int),.I (aT T:Int)] 185)]) a [] x:=F.1;replace hF:=hF.on S.rw;clear F S D;simp only[xN];refine bf (bW c) ?_;walk_nrm
   repeat w_go ak.on
   refine iA Y hF λg d B o a I p s hF=>?_;replace a5:=vad a5 (vad (vR (c:=c) (l:=⟨.idle,false,0,f+1,.work .free ((T,v)::q)⟩) o) (vR (c:=c) (l:=⟨.idle,false,0,f+1,.work .free ((T,v)::q)⟩) p));have m:=hF.bO (t,.cells #[.I (T:Int),.I (fr T:Int),.I (aT T:Int)] 185) AS;refine Do AA Y (pre:=[]) (post:=[]) hF (vek (w':=a.setRow t #[.I 0,.I 0,.I 0]) Y Y An (qH m ⟨Y,Y,Y⟩ Y Y Y).1) Y (λe C=>?_) (λA=>?_)
   .have z:=vbt C;rw[(qH m ⟨Y,Y,Y⟩ Y Y Y).2]at z;grind
   clear hF;have hF:=A;clear A m s p o d;simp only[vdp]at hF⊢;refine bf (bW c) ?_;walk_nrm
   repeat w_go ak.on
   u_in ak.on hF
   refine goes_leave0 Y Y Gz Y ⟨DN,?_⟩;refine vaj (λg d=>⟨Y,λB o=>?_⟩);replace hF:=hF.on d;have O:jf (ao (ay c)) r E (cv r [(t,.cells #[.I 0,.I 0,.I 0] 185)]) g:=⟨λ_ h=>.inl h,hF.rw,ak.sD hF⟩;exact hK ((T,v)::q) (cv r [(t,.cells #[.I 0,.I 0,.I 0] 185)]) g (K.trans O) (N.step U O) g B (ak.sD hF) (vad a5 (vR (c:=c) (l:=⟨.idle,false,0,f+1,.work .free ((T,v)::q)⟩) o))
  .skip
   have S:ak (ao (ay c)) (cv r [(t,.cells #[.I (T:Int),.I (fr T:Int),.I (aT T:Int)] 185)]) a [] x:=F;replace hF:=hF.on S.rw;clear F S D;simp only[gg];refine bf (bW c) ?_;walk_nrm
   repeat w_go ak.on
   refine iA Y hF λg d B o a I p s hF=>?_;have m:=hF.bO (t,.cells #[.I (T:Int),.I (fr T:Int),.I (aT T:Int)] 185) AS;refine Do AA Y (pre:=[]) (post:=[]) hF (vek (w':=a.setRow t #[.I (y:Int),.I (fr y:Int),.I (aT y:Int)]) Y Y An (qH m ⟨Y,Y,Y⟩ Y Y Y).1) Y (λe C=>?_) (λA=>?_)
   .have z:=vbt C;rw[(qH m ⟨Y,Y,Y⟩ Y Y Y).2]at z;grind
   clear hF;have hF:=A;clear A m s p o d;simp only[vdp]at hF⊢;refine bf (bW c) ?_;walk_nrm
   iterate 3 w_go ak.on
   refine vaj (λg d=>⟨Y,λB o=>?_⟩);replace hF:=hF.on d;have O:jf (ao (ay c)) r E (cv r [(t,.cells #[.I (y:Int),.I (fr y:Int),.I (aT y:Int)] 185)]) g:=⟨λ_ h=>.inl h,hF.rw,ak.sD hF⟩;exact ih ((T,v)::q) (cv r [(t,.cells #[.I (y:Int),.I (fr y:Int),.I (aT y:Int)] 185)]) g t y _ _ _ _ _ _ _ _ _ _ _ _ _ _ _ _ _ _ AA atr (.inr AS) (hF.bO (t,.cells #[.I (y:Int),.I (fr y:Int),.I (aT y:Int)] 185) AS) (K.trans O) (N.step U O) g B (ak.sD hF)
def att i{f M w0 cH}(hI:qA c cH w0)(F:∀T v M w M' w',cJ T v M w->(∀b,c.K b\/M b->w'.heap[b]?=w.heap[b]?)->(∀b,M b->M' b)->cJ T v M' w')(P:∀q s w1,ak (ao (ay c)) s w1 [] w1->iU prog Stop false (a_ i 81 115) #[.P c.st 0] (gg c ⟨.idle,false,0,f+15,.work .free q⟩ s w1) (λu y=>(u=.tuple #[.agg #[.I 0,.I 0,.I 0],.F]/\y=xN c ⟨.idle,false,0,f+1,.work .free q⟩ s w1)\/∃T,T<c.N/\u=.tuple #[.agg #[.I (T:Int),.I (fr T:Int),.I (aT T:Int)],.T]/\y=gg c ⟨.idle,false,0,f+31,.work (.has T) q⟩ s w1))(S:∀q T s w1,T<c.N->qA c cH w1->iU prog Stop false (a_ i 82 116) #[.P c.st 0,fX,.agg #[.I (T:Int),.I (fr T:Int),.I (aT T:Int)]] (gg c ⟨.idle,false,0,f+31,.work (.has T) q⟩ s w1) (λu y=>u=.tuple #[]/\∃v J o,jf (ao (ay c)) s w1 J o/\(c.cq T=false->cJ T v (λb=>J b/\¬s b) o)/\y=gg c ⟨.idle,false,0,f+15,.work .free ((T,v)::q)⟩ J o)):
 iU prog Stop false (a_ i 51 93) #[.P c.st 0,fX] (gg c ⟨.idle,false,0,f+15,.work .free []⟩ M w0) (λu y=>u=.tuple #[]/\∃q M' w1,jf (ao (ay c)) M w0 M' w1/\kX c cJ q M' w1/\y=xN c ⟨.idle,false,0,f+1,.work .free q⟩ M' w1):=by
 cases i<;>dsimp only[a_]
 all_goals
  intro a2 aI aC aL aO aK csZ K w γ O;have hK:∀q M' w1,jf (ao (ay c)) M w0 M' w1->kX c cJ q M' w1->∀w γ,ak (ao (ay c)) M' w1 [] w->c.N<=γ.am.taken->bc (ao (ay c)) prog Stop false ⟨.idle,false,0,f+1,.work .free q⟩ γ ⟨Conc.G (a2.at (aI.put ((aC[aL]?).bind (·.dst)) (.tuple #[])) (.inRegion aC aO::aK)) csZ,w,M'⟩:=λq M' w1 h1 h2 w γ h3 h4=>K (.tuple #[]) (xN c ⟨.idle,false,0,f+1,.work .free q⟩ M' w1) AA w γ ⟨h3,h4⟩;clear K;have hF:ak (ao (ay c)) M w0 [] w:=O;clear O;have L:=(dE (bW c)).oo;first|rw[vcj _ func51 Y]|rw[vcj _ func93 Y]
  unfold gg;rw[<-js (M:=M)];refine bf (bW c) ?_;simp only[a_,f51,f93];walk_nrm
  repeat w_go ak.on
  refine iA Y hF λg d t j a D n p hF=>?_;have B:=ak.sD hF;rw[js]at B;rw[js];have C:jf (ao (ay c)) M w0 M a:=⟨λ_ h=>h,hF.rw,B⟩;clear hF;refine NW (σ:=gg c ⟨.idle,false,0,f+15,.work .free []⟩ M a) AA Y Y An (sE (vs:=#[.P c.st 0]) Y E1 AB Y Cv a) (P [] M a B) B ?_;clear p n j d B;rintro u _ (⟨rfl,rfl⟩|⟨T,Q,rfl,rfl⟩) r R A
  .skip
   have a5:c.N<=R.am.taken:=A.2;have hF:ak (ao (ay c)) M a [] r:=A.1;clear A;generalize a=o at hF C;have E:kX c cJ [] M o:=trivial;simp only[xN];rw[<-js (M:=M)];refine bf (bW c) ?_;walk_nrm
   repeat w_go ak.on
   refine iA Y hF λg d t j a D n p hF=>?_;replace a5:=vad a5 (vad (vR (c:=c) (l:=⟨.idle,false,0,f+1,.work .free []⟩) j) (vR (c:=c) (l:=⟨.idle,false,0,f+1,.work .free []⟩) n));refine uE AA L Y hF (vbd (v:=.P a.heap.size 0) (w':=a.alloc (Obj.cells #[.I 0,.I 0,.I 0] 185)) Y Y An Ak) Y BP (λm=>?_);clear hF;have hF:=m;clear m p n j d;generalize a.heap.size=k at hF⊢;generalize a.alloc (Obj.cells #[.I 0,.I 0,.I 0] 185)=w3 at hF⊢;refine bf (bW c) ?_;walk_nrm
   repeat w_go ak.on
   refine iA Y hF λg d t j a D n p hF=>?_;replace a5:=vad a5 (vad (vR (c:=c) (l:=⟨.idle,false,0,f+1,.work .free []⟩) j) (vR (c:=c) (l:=⟨.idle,false,0,f+1,.work .free []⟩) n));have x:=hF.bO (k,.cells #[.I 0,.I 0,.I 0] 185) AS;refine Do AA Y (pre:=[]) (post:=[]) hF (vek (w':=a.setRow k #[.I 0,.I 0,.I 0]) Y Y An (qH x ⟨Y,Y,Y⟩ Y Y Y).1) Y (λe H=>?_) (λm=>?_)
   .have I:=vbt H;rw[(qH x ⟨Y,Y,Y⟩ Y Y Y).2]at I;grind
   clear hF;have hF:=m;clear m x p n j d;simp only[vdp]at hF⊢;refine bf (bW c) ?_;walk_nrm
   repeat w_go ak.on
   u_in ak.on hF
   refine goes_leave0 Y Y Gz Y ⟨DN,?_⟩;refine vaj (λg d=>⟨Y,λt j=>?_⟩);replace hF:=hF.on d;have z:jf (ao (ay c)) M o (cv M [(k,.cells #[.I 0,.I 0,.I 0] 185)]) g:=⟨λ_ h=>.inl h,hF.rw,ak.sD hF⟩;exact hK [] (cv M [(k,.cells #[.I 0,.I 0,.I 0] 185)]) g (C.trans z) (E.step F z) g t (ak.sD hF) (vad a5 (vR (c:=c) (l:=⟨.idle,false,0,f+1,.work .free []⟩) j))
  .skip
   have hF:ak (ao (ay c)) M a [] r:=A;clear A;generalize a=o at hF C;have E:kX c cJ [] M o:=trivial;simp only[gg];rw[<-js (M:=M)];refine bf (bW c) ?_;walk_nrm
   repeat w_go ak.on
   refine iA Y hF λg d t j a D n p hF=>?_;refine uE AA L Y hF (vbd (v:=.P a.heap.size 0) (w':=a.alloc (Obj.cells #[.I 0,.I 0,.I 0] 185)) Y Y An Ak) Y BP (λm=>?_);clear hF;have hF:=m;clear m p n j d;generalize a.heap.size=k at hF⊢;generalize a.alloc (Obj.cells #[.I 0,.I 0,.I 0] 185)=w3 at hF⊢;refine bf (bW c) ?_;walk_nrm
   repeat w_go ak.on
   refine iA Y hF λg d t j a D n p hF=>?_;have x:=hF.bO (k,.cells #[.I 0,.I 0,.I 0] 185) AS;refine Do AA Y (pre:=[]) (post:=[]) hF (vek (w':=a.setRow k #[.I (T:Int),.I (fr T:Int),.I (aT T:Int)]) Y Y An (qH x ⟨Y,Y,Y⟩ Y Y Y).1) Y (λe H=>?_) (λm=>?_)
   .have I:=vbt H;rw[(qH x ⟨Y,Y,Y⟩ Y Y Y).2]at I;grind
   clear hF;have hF:=m;clear m x p n j d;simp only[vdp]at hF⊢;refine bf (bW c) ?_;walk_nrm
   iterate 4 w_go ak.on
   refine vaj (λg d=>⟨Y,λt j=>?_⟩);replace hF:=hF.on d;have z:jf (ao (ay c)) M o (cv M [(k,.cells #[.I (T:Int),.I (fr T:Int),.I (aT T:Int)] 185)]) g:=⟨λ_ h=>.inl h,hF.rw,ak.sD hF⟩;have N:=atq _ hI F P S hK c.N;simp only[a_,f51,f93,vaf,bQ.dV]at N;exact N [] (cv M [(k,.cells #[.I (T:Int),.I (fr T:Int),.I (aT T:Int)] 185)]) g k T _ _ _ _ _ _ _ _ _ _ _ _ _ _ _ _ _ _ AS Q (.inr AS) (hF.bO (k,.cells #[.I (T:Int),.I (fr T:Int),.I (aT T:Int)] 185) AS) (C.trans z) (E.step F z) g t (ak.sD hF)
end
end
end
end iu
namespace e9
open RowKit av
@[simp] theorem aup:dc true 14:=vfb func14
@[simp] theorem aIZ:dc true 11:=vfb func11
@[simp] theorem aI0:dc true 10:=vfb func10
@[simp] theorem aI1:dc true 9:=vfb func9
@[simp] theorem aI2:dc true 12:=vfb func12
@[simp] theorem auq:dc true 6:=vfb func6
@[simp] theorem aur:dc true 7:=vfb func7
def ek(c:Int):Prop:= -9223372036854775808<=c/\c<=9223372036854775807
def oE(c n:Int):Int:=(if c<0 then -(c+1)else c) % n
def gw(c:Int):Bool:=decide (c<0)&&decide (oE c 3=0)
def fJ(c:Int):Int:=if gw c then 0 else oE c 2001-1000
def kq(c:Int):Int:=if gw c then 0 else oE c 4
def lets:List String:=["","a","b","ab","ba","aa","c","é","A","0"," ","zz","z"]
def nT(c:Int):ByteArray:=if gw c then "".toUTF8 else(lets[(oE c 13).toNat]?.getD "").toUTF8
def uZ c{n}(hn:0<n):0<=oE c n/\oE c n<n:=⟨Int.emod_nonneg _ AQ,Int.emod_lt_of_pos _ hn⟩
def VO c: -1000<=fJ c/\fJ c<=1000:=by
 unfold fJ;split
 .omega
 .have:=uZ c (n:=2001) AQ;omega
def aus c:0<=kq c/\kq c<=3:=by
 unfold kq;split
 .omega
 .have:=uZ c (n:=4) AQ;omega
def KV(c n:Int)(b:ek c)(hn:0<n/\n<=1000000)(w:aR):Calls vfc 14 #[.I c,.I n] w λe w'=>e=.returned (.I (oE c n))/\w'=w:=by
 obtain⟨h1,h2⟩:=b;obtain⟨h3,h4⟩:=hn;have d:=uZ c h3;go_enter (vez func14),ntmps14
 by_cases h:c<0
 .have a: -(c+1).tmod n=oE c n:=by unfold oE;rw[vca h,<-Int.neg_tmod,Int.tmod_eq_emod_of_nonneg AQ]
  go_wp2
  go_ret
  simp_all
 .have a:c % n=oE c n:=by simp_all[oE,vby]
  go_wp2
  go_ret
  simp_all
def vA(c:Int)(a:ek c)(w:aR):Calls vfc 11 #[.I c] w λe w'=>e=.returned (.bool (gw c))/\w'=w:=by
 go_enter (vez func11),ntmps11
 by_cases h:c<0
 .go_wp2_with (refine(KV c 3 a AQ _).mono ?_;rintro e w' ⟨rfl,rfl⟩)
  go_ret
  refine⟨?_,Y⟩;unfold gw;simp[h];rfl
 .go_wp2
  go_ret
  refine⟨?_,Y⟩;unfold gw;simp[show¬c<0 by omega]
def U7(c:Int)(a:ek c)(w:aR):Calls vfc 10 #[.I c] w λe w'=>e=.returned (.I (fJ c))/\w'=w:=by
 go_enter (vez func10),ntmps10
 have b:=uZ c (n:=2001) AQ;cases hn:gw c with
 |true=>
  go_wp2_with (refine(vA c a _).mono ?_;rintro e w' ⟨rfl,rfl⟩)
  go_ret
  simp_all[fJ]
 |false=>
  go_wp2_with (first|(refine(vA c a _).mono ?_;rintro e w' ⟨rfl,rfl⟩)|(refine(KV c 2001 a AQ _).mono ?_;rintro e w' ⟨rfl,rfl⟩))
  go_ret
  simp_all[fJ]
def aut(c:Int)(a:ek c)(w:aR):Calls vfc 9 #[.I c] w λe w'=>e=.returned (.I (kq c))/\w'=w:=by
 go_enter (vez func9),ntmps9
 have b:=uZ c (n:=4) AQ;cases hn:gw c with
 |true=>
  go_wp2_with (refine(vA c a _).mono ?_;rintro e w' ⟨rfl,rfl⟩)
  go_ret
  simp_all[kq]
 |false=>
  go_wp2_with (first|(refine(vA c a _).mono ?_;rintro e w' ⟨rfl,rfl⟩)|(refine(KV c 4 a AQ _).mono ?_;rintro e w' ⟨rfl,rfl⟩))
  go_ret
  simp_all[kq]
def auu(c:Int)(a:ek c)(w:aR):Calls vfc 12 #[.I c] w λe w'=>e=.returned (.string (nT c))/\c6 w w':=by
 go_enter (vez func12),ntmps12
 cases hn:gw c with
 |true=>
  go_wp2_with (refine(vA c a _).mono ?_;rintro e w' ⟨rfl,rfl⟩)
  go_ret
  exact⟨by simp[nT,hn];rfl,vaa _ _⟩
 |false=>
  obtain⟨k,hk,f⟩:∃k:Nat,k<13/\oE c 13=(k:Int):=⟨(oE c 13).toNat,by simp_all[uZ],by have:=uZ c (n:=13) AQ;omega⟩;have b:nT c=(lets[k]?.getD "").toUTF8:=by grind[nT]
  go_wp2_with (first|(refine(vA c a _).mono ?_;rintro e w' ⟨rfl,rfl⟩)|(refine(KV c 13 a AQ _).mono ?_;rintro e w' ⟨rfl,rfl⟩))
  go_ret
  refine⟨?_,(vaa _ _).alloc JR _⟩;rw[b];have d:k=0\/k=1\/k=2\/k=3\/k=4\/k=5\/k=6\/k=7\/k=8\/k=9\/k=10\/k=11\/k=12:=AQ;rcases d with rfl|rfl|rfl|rfl|rfl|rfl|rfl|rfl|rfl|rfl|rfl|rfl|rfl<;>rfl
def auv(k:Int)(w:aR):Calls vfc 6 #[.I k] w λe w'=>e=.returned (.agg #[.I 1,.I k,.I 0,.N,.N,.N,.N])/\c6 w w':=by
 go_enter (vez func6),ntmps6
 go_wp2
 refine vav (v:=.agg #[.I 1,.I k,.I 0,.N,.N,.N,.N]) (by simp[results,results6,go_sem]) Y ?_;exact⟨Y,(vaa _ _).alloc JR _⟩
def auw v t(ht:0<t.length)w(hv:n8 w v t):Calls vfc 7 #[.agg #[v]] w λe w'=>e=.returned (.I (t[0].ff.length:Int))/\c6 w w':=by
 obtain⟨p,cap,rfl,l,c⟩:=hv;obtain⟨b,off,rfl,o,vs,q,d,d1,h,g,f,a⟩:=c 0 ht;obtain⟨k,ci,i,j,an,m,rfl,rfl,rfl⟩:=a.shape;have n:b<w.heap.size:=ef d;clear c a d d1 h g;simp at f;go_enter (vez func7),ntmps7
 go_wp2
 go_ret
 exact⟨Y,(vaa _ _).alloc JR _⟩
end e9
namespace aV
def PB{l:uai}{n}(h:l.length=n+1):∃x a,l=x::a/\a.length=n:=by cases l<;>grind
def axd{a:Act}(h:a.tmps.size=40)(hd:a.defers=[]):∃e j i g f d R b Q P N M L K J I H F E D C c B O A z y x w v u t s r q p o n m k,a=⟨#[e,j,i,g,f,d,R,b,Q,P,N,M,L,K,J,I,H,F,E,D,C,c,B,O,A,z,y,x,w,v,u,t,s,r,q,p,o,n,m,k],[]⟩:=by
 obtain⟨⟨l⟩,ds⟩:=a;cases hd;iterate 40
  rcases l with _ |⟨_,l⟩
  .simp at h
 rcases l with _ |⟨_,l⟩
 .iterate 40 apply Exists.intro
  rfl
 .simp at h
