import Derived.Test.YtnkpmooengcinaaGreatPAM
set_option linter.all false
set_option maxRecDepth 100000
set_option maxHeartbeats 16000000
namespace Go.Proofs.YtnkpmooengcinaaGreat
open Go.Proofs.Tryz
namespace bj
open Conc ConcM av bn cW dv
abbrev cJ(P:ck):cy:=cm P true
section
variable{ρ:Ren}
def XN(n:∀a b d,ρ.rel a b->ρ.rel a d->b=d){a b c:Addr}(h:dq ρ a b)(k:dq ρ a c):b=c:=by obtain⟨q,p,o⟩:=b;obtain⟨m,l,j⟩:=c;obtain⟨i,g,f⟩:=h;obtain⟨s,r,e⟩:=k;grind
def LW(o:∀a b p,ρ.rel a b->ρ.rel a p->b=p){x y:Value}(h:ap ρ x y):∀{z:Value},ap ρ x z->y=z:=by
 have all:∀{a a':dC},a.size=a'.size->(∀(i:Nat)(v v':Value),a[i]?=some v->a'[i]?=some v'->∀{z:Value},ap ρ v z->v'=z)->∀{b:dC},a.size=b.size->(∀(i:Nat)(v v':Value),a[i]?=some v->b[i]?=some v'->ap ρ v v')->a'=b:=by
  intro a a' hs e b m k;apply Array.ext
  .grind
  .intro i hi H;have F:i<a.size:=hs▸hi;exact e i a[i] a'[i] AN AN (k i _ _ AN AN)
 induction h with
 |bool b=>intro z k;cases k;rfl
 |int k n=>intro z k;cases k;rfl
 |string s=>intro z k;cases k;rfl
 |lg=>intro z k;cases k;rfl
 |ptr r=>intro z k;cases k with|ptr d=>rw[XN o r d]
 |h7 l c=>intro z k;cases k;rfl
 |slice l c r=>intro z k;cases k with|slice _ _ d=>rw[XN o r d]
 |pe=>intro z k;cases k;rfl
 |map r=>intro z k;cases k with|map d=>grind
 |pf=>intro z k;cases k;rfl
 |func C D m _ _ B A=>intro z k;cases k with|func j g E w u=>rw[all D B g w,all m A E u];cases C with|func f=>cases j;rfl|yield r=>cases j with|yield d=>grind
 |nilFunc=>intro z k;cases k;rfl
 |iface t _ e=>intro z k;cases k with|iface _ k'=>grind
 |nilIface=>intro z k;cases k;rfl
 |agg hs _ e=>intro z k;cases k with|agg q k'=>grind
 |tuple hs _ e=>intro z k;cases k with|tuple q k'=>grind
end
def fM(P:ck):Item->Bool
 | .code c| .inLoop c| .inScope c=>jP P true c
 | .inBlock _=>true
 | .inRegion ops _=>ops.all λo=>mK P true o.op
 | _=>false
variable{P:ck}
variable{c:Code}
def QH(a:(cJ P).Good)(h:jP P true c=true):(cJ P).fF c:=(a.ou c).2 ((Wp P true true c).trans h)
def akT(a:(cJ P).Good){ρ:Ren}{x:Item}(h:fM P x=true):rS (cJ P) ρ x x:=by cases x with|code c=>exact .code (QH a h)|inLoop c=>exact .inLoop (QH a h)|inScope c=>exact .inScope (QH a h)|inBlock id=>exact .inBlock id|inRegion ops l=>exact .inRegion (λo b=>(Wo P true true o.op).trans (vap.1 h o b)) l| _=>cases h
theorem XO(a:(cJ P).Good){ρ:Ren}:∀{l:uab},l.all (fM P)=true->mL (cJ P) ρ l l
 | [],_=>.nil
 |x::l,h=>by simp only[vbi,vae]at h;exact .cons (akT a h.1) (XO a h.2)
theorem XP{ρ:Ren}:∀{l a:uab},l.all (fM P)=true->mL (cJ P) ρ l a->a=l
 | [],_,_,h=>by cases h;rfl
 |x::l,_,hk,h=>by simp only[vbi,vae]at hk;cases h with|cons b c=>rw[XP hk.2 c];cases b<;>first|rfl|cases hk.1
def jX(P:ck)(f:ual):Prop:=∃fn c,(aa P true).funcs[f]?=some fn/\fn.body=some c
def Ik(d:(cJ P).Good){ρ:Ren}{f:ual}(b:jX P f){a:Act}(c:aL ρ a.tmps a.tmps)(hd:a.defers=[]){k:uab}(hk:k.all (fM P)=true):ep (cJ P) ρ ((base f).at a k) ((base f).at a k):=
 ⟨U,b,c,XO d hk,by show qV ρ a.defers a.defers;rw[hd];exact .nil,.run,U,.inl U,.none⟩
theorem Il{ρ:Ren}{f:ual}{a:Act}(hd:a.defers=[]){k:uab}(hk:k.all (fM P)=true){g:Frame}(h:ep (cJ P) ρ ((base f).at a k) g):∃a':Act,g=(base f).at a' k/\aL ρ a.tmps a'.tmps/\a'.defers=[]:=by obtain⟨fn,tmps,todo,defers,mode,kind,ro⟩:=g;obtain⟨d,_,n,m,b,o,c,_,i⟩:=h;have e:todo=k:=XP hk m;have b:qV ρ a.defers defers:=b;rw[hd]at b;have l:uj ρ .run mode:=o;have j:mJ ρ.rel none ro:=i;cases b;cases l;cases j;refine⟨⟨tmps,[]⟩,?_,n,U⟩;subst e;have d:f=fn:=d;have c:CallKind.normal=kind:=c;subst d;subst c;rfl
structure gp where
 n:Nat
 heap:Array Obj
abbrev gT(M:c5):Nat->Prop:=M
abbrev bU(M:c5):Ren:=c8 M (gT M)
structure Home(O:gp)(P:ck)(M:c5)(Shun:uan)(w:aH):Prop where
 cl:eA (cJ P) M (gT M) w
 wB:∀g,g<=P.globals.size->M g
 sh:∀b,M b\/w.heap.size<=b->∀l,eT l=some b->¬Shun l
 new:∀b,M b->b≠0->O.n<=b
 ob:O.n<=w.heap.size
 old:∀b,0<b->b<O.n->w.heap[b]?=O.heap[b]?
 so:∀b,b<O.n->∀l,eT l=some b->¬Shun l
structure pz(w w':aH):Prop where
 size:w.heap.size<=w'.heap.size
 later:OsLater w.os w'.os
 output:w'.output=w.output
 tape:w'.tape=w.tape
theorem pz.refl(w:aH):pz w w:=⟨vad _,.refl _,U,U⟩
theorem pz.trans{a b c:aH}(h:pz a b)(k:pz b c):pz a c:=⟨vac h.size k.size,h.later.trans k.later,k.output.trans h.output,k.tape.trans h.tape⟩
def pA(ρ:Ren):Nat->Prop:=λb=>∃a,ρ.rel a b
section
variable{O:gp}{Post:fE}{n:Nat}{Shun:uan}{M:c5}{w:aH}
theorem Home.at(h:Home O P M Shun w)(k:Nat):Home O P M Shun (w.at k):=⟨h.cl,h.wB,h.sh,h.new,h.ob,h.old,h.so⟩
def Home.lt(h:Home O P M Shun w){b:Nat}(a:M b):b<w.heap.size:=by obtain⟨o,c,_⟩:=h.cl b a;grind
structure Behind(O:gp)(P:ck)(M:c5)(Shun:uan)(w:aH)(ρ:Ren)(bF w':aH):Prop where
 rel:∃S,eo (cJ P) S ρ bF w'
 le:Ren.le (bU M) ρ
 fk:Home O P (pA ρ) Shun w'
 since:pz w w'
 old:∀a b,ρ.rel a b->(a=b/\M b)\/w.heap.size<=b
def Behind.same{ρ:Ren}{c w':aH}(h:Behind O P M Shun w ρ c w'){v v':Value}(hv:ap (bU M) v v)(b:ap ρ v v'):v'=v:=by obtain⟨S,a⟩:=h.rel;exact(LW a.one (hv.mono h.le) b).symm
def Behind.mem{ρ:Ren}{c w':aH}(h:Behind O P M Shun w ρ c w'){b:Nat}(a:M b):pA ρ b:=⟨b,h.le.1 b b ⟨U,a⟩⟩
def Behind.val{ρ:Ren}{d w':aH}(_:Behind O P M Shun w ρ d w'){v v':Value}(b:ap ρ v v'):ap (bU (pA ρ)) v' v':=ap.right (σ:=bU (pA ρ)) (λa _ c=>⟨U,a,c⟩) b
def Behind.all{ρ:Ren}{d w':aH}(_:Behind O P M Shun w ρ d w'){v v':dC}(b:aL ρ v v'):aL (bU (pA ρ)) v' v':=aL.right (σ:=bU (pA ρ)) (λa _ c=>⟨U,a,c⟩) b
theorem Behind.carry{ρ:Ren}{a w':aH}(h:Behind O P M Shun w ρ a w'):Carry ρ a w':=by obtain⟨S,b⟩:=h.rel;exact b.carry
theorem Home.cell(h:Home O P M Shun w){a:Addr}{v:Value}(j:M a.block)(hv:w.cell? a=some v):ap (bU M) v v:=by
 obtain⟨c,e,fr,g,k,d⟩:=wc hv;obtain⟨o,f,b⟩:=h.cl _ j;rw[g]at f;cases f;rcases b with b|b
 .cases b with|cells _ i _=>exact i.get _ _ _ d d
 .exact b.elim
theorem Home.laid(h:Home O P M Shun w){b:aH}(g:fX (cJ P) M (gT M) w b){a:Addr}{v:Value}(f:M a.block)(hv:w.cell? a=some v):b.cell? a=some v:=by obtain⟨c,e,fr,d,k,j⟩:=wc hv;obtain⟨i,l,_⟩:=g.cells h.cl f d;grind[rP]
def Behind.kept{ρ:Ren}{e d w':aH}(h:Behind O P M Shun w ρ d w')(f:Home O P M Shun w)(i:fX (cJ P) M (gT M) w e){a:Addr}{v:Value}(b:M a.block)(hv:w.cell? a=some v)(hk:e.cell? a=some v->d.cell? a=some v):w'.cell? a=some v:=by obtain⟨j,c,g⟩:=h.carry a a v ⟨h.le.1 _ _ ⟨U,b⟩,U,U⟩ (hk (f.laid i b hv));rw[h.same (f.cell b hv) g]at c;exact c
def Behind.keeps{ρ:Ren}{f d w':aH}(h:Behind O P M Shun w ρ d w')(g:Home O P M Shun w)(i:fX (cJ P) M (gT M) w f)(hk:bm f d):Carry (bU M) w w':=by
 rintro a a' v ⟨⟨l,hd⟩,k,j⟩ hv;have e:a=a':=by obtain⟨x,y,z⟩:=a';obtain⟨p,q,r⟩:=a;grind
 subst e;refine⟨v,h.kept g i hd hv λx=>?_,g.cell hd hv⟩;obtain⟨b,o,sp⟩:=a;obtain⟨_,_,_,_,c,_⟩:=wc hv;simp only at c;subst c;exact hk b o v x
def Home.next(c:Home O P M Shun w){X Y:aV}(f:cW.Left X Y)(j:X.w=w/\X.mine=gT M){ρ:Ren}{S:Sync}{n:aH}{k:Nat}(l:eo (cJ P) S ρ n (Y.w.at k))(e:Ren.le (bU M) ρ)(hold:∀a b,ρ.rel a b->(bU M).rel a b\/w.heap.size<=b):Home O P (pA ρ) Shun (Y.w.at k):=by
 obtain⟨rfl,o⟩:=j;have kept:∀b,b<X.w.heap.size->¬gT M b->Y.w.heap[b]?=X.w.heap[b]?:=λb m p=>f.kept b m AN;refine⟨l.closed _,λg hg=>⟨g,e.1 g g ⟨U,c.wB g hg⟩⟩,λb d=>?_,λb⟨a,i⟩ d=>?_,vac c.ob f.size,λb h0 d=>?_,c.so⟩
 .rcases d with⟨a,i⟩|d
  .rcases hold a b i with h|h
   .exact c.sh b (.inl h.2)
   .exact c.sh b (.inr h)
  .exact c.sh b (.inr (vac f.size d))
 .rcases hold a b i with h|h
  .exact c.new b h.2 d
  .exact vac c.ob h
 .refine(kept b (van d c.ob) λx=>?_).trans (c.old b h0 d);have:=c.new b x AY;omega
def XQ(v:(cJ P).Good)(i:Home O P M Shun w){f:ual}{fr:Frame}{cs0 bs:fA}(z:ep (cJ P) (bU M) fr fr)(m:iV (cJ P) (bU M) cs0 cs0)(x:iW fr cs0){R:Frame->List Frame->aH->aH->Prop}(hrun:∀e,fX (cJ P) M (gT M) w e->∀T,∃c cse d,Steps (aa P true) (lone fr (cs0++[eI f]) {e with tape:=T}) (lone c (cse++[eI f]) d)/\R c cse e d)(y:∀ρ c cse e d l j w',fX (cJ P) M (gT M) w e->R c cse e d->ep (cJ P) ρ c l->iV (cJ P) ρ cse j->Behind O P M Shun w ρ d w'->ca P Post n Shun 0 (bf l (j++bs)) w'):
 ca P Post n Shun 0 (bf fr (cs0++bs)) w:=by
 obtain⟨e,q⟩:=EI (cJ P) M (gT M) w;have s:=Wj (C:=(cJ P)) (f:=f) (base:=bs) (w0:=e) (mf:=w) (K:=λ_=>False) (qY:=gT M) (R:=λc cse d=>R c cse e d) v z m x (q.rel i.cl i.wB AN) (λb h=>h) (λa b h=>.inr h.2)
  (λT=>by obtain⟨c,cse,d,⟨k,hk⟩,p⟩:=hrun e q T;exact⟨k,c,cse,d,hk,p⟩) true
 refine wo (Ln s U (λb u=>i.lt AN) (λb u=>i.sh b AN) ?_);rintro Y ⟨ρ,c,cse,d,T,p,ht⟩ g;obtain⟨l,j,hg,t,o⟩:=ht.frames;rw[hg];refine .stop λk=>y ρ c cse e d l j (Y.w.at k) q p t o ?_;have r:=ht.world.rely (w':=Y.w.at k) (bound:=0) (⟨λ_ _=>U,vad _,U⟩:j4 (λ_=>False) Y (Y.w.at k)) ht.dom AN;exact⟨⟨_,r⟩,ht.le,i.next g ⟨U,U⟩ r ht.le ht.old,⟨g.size,g.os,g.output,g.tape⟩,λa b h=>(ht.old a b h).imp id id⟩
end
section
open lU
variable{O:gp}
section
variable{P:ck}{Post:fE}{n:Nat}{Shun:uan}{M:c5}{w:aH}
def QN(F:(cJ P).Good)(hF:P.follows .rangeFuncRecover=true){D:fN}(m:Home O P M Shun w){f:ual}{fr:Frame}{cs0 bs:fA}{g:uai}(hd:D.d<=bs.length)(hv:mo P D (bf fr (cs0++bs)) g)(J:ep (cJ P) (bU M) fr fr)(s:iV (cJ P) (bU M) cs0 cs0)(H:iW fr cs0){R:Frame->List Frame->aH->aH->Prop}(hrun:∀e,fX (cJ P) M (gT M) w e->∀T,∃c cse d,Steps (aa P true) (lone fr (cs0++[eI f]) {e with tape:=T}) (lone c (cse++[eI f]) d)/\R c cse e d)(I:∀ρ c cse e d p o w' g',fX (cJ P) M (gT M) w e->R c cse e d->ep (cJ P) ρ c p->iV (cJ P) ρ cse o->Behind O P M Shun w ρ d w'->mo P D (bf p (o++bs)) g'->ca P Post n Shun 0 g' w'):
 ca P Post n Shun 0 g w:=by
 obtain⟨e,y⟩:=EI (cJ P) M (gT M) w;have B:=ow.var hF hd (Wf (C:=(cJ P)) (f:=f) (base:=bs) (w0:=e) (mf:=w) (K:=λ_=>False) (qY:=gT M) (R:=λc cse d=>R c cse e d) F J s H (y.rel m.cl m.wB λ_ _ l=>.inl l) (λb h=>h) (λa b h=>.inr h.2)
  (λT=>by obtain⟨c,cse,d,⟨k,hk⟩,u⟩:=hrun e y T;exact⟨k,c,cse,d,hk,u⟩) true) g hv
 refine wo (Ln B hv.parts.1 (λb l=>m.lt (l.resolve_left λx=>x)) (λb l=>m.sh b (l.resolve_left λx=>x)) ?_);rintro A ⟨Y,⟨ρ,c,cse,d,T,u,ht⟩,z,v,L⟩ i;obtain⟨p,o,hg,E,t⟩:=ht.frames;rw[hg]at z;refine .stop λk=>I ρ c cse e d p o (A.w.at k) A.g y u E t ?_ z;have r:=ht.world.rely (w':=Y.w.at k) (bound:=0) (⟨λ_ _=>U,vad _,U⟩:j4 (λ_=>False) Y (Y.w.at k)) ht.dom (λj q h=>absurd h (Nat.not_lt_zero _));rw[<-v]at r;exact⟨⟨_,r⟩,ht.le,m.next i ⟨U,U⟩ r ht.le ht.old,⟨i.size,i.os,i.output,i.tape⟩,λa b h=>(ht.old a b h).imp id id⟩
structure hR(D:fN)(a b:Act):Prop where
 size:b.tmps.size=a.tmps.size
 same:∀i,D.T i=false->b.tmps[i]?=a.tmps[i]?
 gone:∀i v,D.T i=true->a.tmps[i]?=some v->v=undef
 kept:∀i,D.K i=true->b.tmps[i]?=D.V i
 defers:b.defers=a.defers
structure Ac(P:ck)(D:fN)(f:ual):Prop where
 BV:∃fn,P.funcs[f]?=some fn/\fn.results.all (BU D)=true
 sl:∀t,D.sl t=true->∃e,P.underlying t=some (.slice e)
 LY:P.inits.idxOf? f=none
section
variable{D:fN}{f:ual}{a b:Act}{k:uab}
def hR.QO(h:hR D a b)(f:ual)(k:uab):eY D ((base f).at a k) ((base f).at b k):=
 ⟨by simp only[Frame.at,base,h.defers],h.size,h.same,λ_=>h.gone,λ_=>h.kept⟩
def Ac.b9(h:Ac P D f)(hk:k.all (hQ D)=true)(a:Act):mU P D ((base f).at a k):=⟨λ_=>hk,U,h.BV,h.sl,h.LY⟩
theorem eY.act{fr:Frame}(h:eY D ((base f).at a k) fr):∃b:Act,fr=(base f).at b k/\hR D a b:=by refine⟨⟨fr.tmps,a.defers⟩,?_,h.size,h.same,h.gone U,h.kept U,U⟩;have:=h.eq;rw[this];rfl
end
end
end
section
open lU
variable{O:gp}
section
variable{P:ck}{Post:fE}{n:Nat}{Shun:uan}{M:c5}{w:aH}
theorem iz(a:Act)(d:Option Tmp)(v:Value):(a.put d v).tmps.size=a.tmps.size:=by cases d<;>simp[Act.put]
theorem put_defers(a:Act)(d:Option Tmp)(v:Value):(a.put d v).defers=a.defers:=by cases d<;>rfl
structure ak_(P:ck)(M:c5)(eC:ual)(aF:Act)(az:eQ)(aI:Nat)(aG:uab)(D:Nat->fN)(cD:Act):Prop where
 oK:∀n,hR (D n) cD aF
 all:aL (bU M) cD.tmps cD.tmps
 d:∀n,(D n).d=n
 fn:∀n,Ac P (D n) eC
 ops:∀n,az.all (sj (D n) az)=true
 items:∀n,aG.all (hQ (D n))=true
 dst:∀n d,(az[aI]?).bind (·.dst)=some d->(D n).T d=false
 aW:∀n i,(D n).T i=true->(D n).K i=true
 follows:P.follows .rangeFuncRecover=true
structure wC(P:ck)(M:c5)(eC:ual)(aF:Act)(az:eQ)(aI:Nat)(aG:uab):Prop where
 known:jX P eC
 tmps:aL (bU M) aF.tmps aF.tmps\/∃D cD,ak_ P M eC aF az aI aG D cD
 defers:aF.defers=[]
 ops:fM P (.inRegion az [])=true
 items:aG.all (fM P)=true
 dst:∃d,(az[aI]?).bind (·.dst)=some d/\d<aF.tmps.size
def eb(O:gp)(P:ck)(Post:fE)(f:ual)(args:dC)(M:c5)(w:aH)(d:Nat)(V:ube):Prop:=
 ∀n Shun,n+16*d<=200->Home O P M Shun w->∀eC aF az aI aK aG csZ,wC P M eC aF az aI aG->
  (∀u M' w' n' a9,n'<=n+16*d->Home O P M' a9 w'->(∀b,M b->M' b)->ap (bU M') u u->pz w w'->V u M' w'->
   ca P Post n' a9 0 (bf ((base eC).at (aF.put ((az[aI]?).bind (·.dst)) u) (.inRegion az aK::aG)) csZ) w')->
  ca P Post n Shun 0 (bf (Frame.enter P f args .normal) ((base eC).at aF (.inRegion az (aI::aK)::aG)::csZ)) w
def uH{M M':c5}(h:∀b,M b->M' b):Ren.le (bU M) (bU M'):=⟨λ_ b k=>⟨k.1,h b k.2⟩,λb k=>h b k⟩
def wC.rel(d:(cJ P).Good){b:ual}{aF:Act}{az:eQ}{aI:Nat}{aG:uab}(h:wC P M b aF az aI aG)(l:uag){a:Act}(c:aL (bU M) a.tmps a.tmps)(hd:a.defers=[]):ep (cJ P) (bU M) ((base b).at a (.inRegion az l::aG)) ((base b).at a (.inRegion az l::aG)):=
 Ik d h.known c hd (by simp only[vbi,vae];exact⟨h.ops,h.items⟩)
theorem wC.mono{M':c5}(c:∀b,M b->M' b){a:ual}{aF:Act}{az:eQ}{aI:Nat}{aG:uab}(h:wC P M a aF az aI aG):wC P M' a aF az aI aG:=
 ⟨h.known,h.tmps.imp (λx=>x.mono (uH c)) (λ⟨D,d,x⟩=>⟨D,d,x.oK,x.all.mono (uH c),x.d,x.fn,x.ops,x.items,x.dst,x.aW,x.follows⟩),h.defers,h.ops,h.items,h.dst⟩
def X0{ρ:Ren}{o w':aH}(m:Behind O P M Shun w ρ o w'){aF a':Act}{d:Nat}(e:d<aF.tmps.size)(l:aL (bU M) aF.tmps aF.tmps)(h:aF.defers=[]){v:Value}(c:aL ρ (aF.put (some d) v).tmps a'.tmps)(b:a'.defers=[]):∃u,ap ρ v u/\a'=aF.put (some d) u:=by
 have hsz:a'.tmps.size=aF.tmps.size:=by rw[<-c.size,iz]
 obtain⟨u,k⟩:∃u,a'.tmps[d]?=some u:=⟨a'.tmps[d]'(hsz▸e),AN⟩;refine⟨u,c.get d v u (by simp[Act.put,e]) k,?_⟩;obtain⟨n,g⟩:=a';have b:g=[]:=b;subst b;show _=(⟨aF.tmps.setIfInBounds d u,aF.defers⟩:Act);rw[h];congr 1
 apply Array.ext
 .grind
 .intro j f a;have q:j<aF.tmps.size:=AN;apply vbq;rw[<-vak f,<-vak a,vaq];by_cases p:d=j
  .grind
  .simp[p];have i:ap ρ aF.tmps[j] n[j]:=c.get j _ _ (by grind[Act.put]) AN;rw[vak f,vak q,m.same (l.get j _ _ AN AN) i]
def ala(C:(cJ P).Good)(a0:Home O P M Shun w){fr:Frame}(bL:ep (cJ P) (bU M) fr fr){j:ual}{aF:Act}{az:eQ}{aI:Nat}{aK:uag}{aG:uab}{csZ:fA}(s:wC P M j aF az aI aG){gV:ubq}(hrun:∀m,fX (cJ P) M (gT M) w m->∀T,∀c cs,∃v p,gV m v p/\Steps (aa P true) (lone fr (c::cs) {m with tape:=T}) (lone (c.finish v) cs p))(c0:∀ρ m v p u w',fX (cJ P) M (gT M) w m->gV m v p->ap ρ v u->Behind O P M Shun w ρ p w'->ca P Post n Shun 0 (bf ((base j).at (aF.put ((az[aI]?).bind (·.dst)) u) (.inRegion az aK::aG)) csZ) w'):
 ca P Post n Shun 0 (bf fr ((base j).at aF (.inRegion az (aI::aK)::aG)::csZ)) w:=by
 obtain⟨d,p9,lj⟩:=s.dst;have X1:∀q:Act,∀m,fX (cJ P) M (gT M) w m->∀T,∃z cse p,Steps (aa P true) (lone fr ([(base j).at q (.inRegion az (aI::aK)::aG)]++[eI j]) {m with tape:=T}) (lone z (cse++[eI j]) p)/\cse=[]/\∃v,z=(base j).at (q.put (some d) v) (.inRegion az aK::aG)/\gV m v p:=by intro q m U T;obtain⟨v,p,F,E⟩:=hrun m U T ((base j).at q (.inRegion az (aI::aK)::aG)) [eI j];grind[Frame.finish_at]
 have Y:(Item.inRegion az aK::aG).all (fM P)=true:=by simp only[vbi,vae];exact⟨s.ops,s.items⟩
 rcases s.tmps with X2|⟨D,q,r⟩
 .refine XQ C a0 (f:=j) (cs0:=[(base j).at aF (.inRegion az (aI::aK)::aG)]) (bs:=csZ) bL (.cons (s.rel C _ X2 s.defers) .nil) ⟨rfl,rfl⟩
   (R:=λz cse m p=>cse=[]/\∃v,z=(base j).at (aF.put (some d) v) (.inRegion az aK::aG)/\gV m v p) (X1 aF) ?_
  rintro ρ z cse m p aO bb w' U ⟨rfl,v,rfl,hv⟩ H A L;cases A;obtain⟨a',rfl,F,E⟩:=Il (by rw[put_defers];exact s.defers) Y H;obtain⟨u,S,rfl⟩:=X0 L lj X2 s.defers F E;grind
 .have y:=r.oK csZ.length;have h0:q.defers=[]:=by rw[<-y.defers];exact s.defers
  have Q:d<q.tmps.size:=by rw[<-y.size];grind
  have dR:∀l:List Nat,(Item.inRegion az l::aG).all (hQ (D csZ.length))=true:=λl=>by rw[vbi,vae];refine⟨?_,r.items _⟩;simp[hQ];intro i _;cases Z:az[i]? with|none=>rfl|some o=>exact vap.1 (r.ops _) o (vbf Z)
  refine QN C r.follows (D:=D csZ.length) a0 (f:=j) (cs0:=[(base j).at q (.inRegion az (aI::aK)::aG)]) (bs:=csZ) (g:=bf fr ((base j).at aF (.inRegion az (aI::aK)::aG)::csZ)) (by rw[r.d];grind) (.under _ (.here (y.QO _ _) ⟨(r.fn _).b9 (dR _) _,λ_ ops i rest k e o Z d' gi=>?_⟩ _ (r.d _).symm) _ _) bL (.cons (s.rel C _ r.all h0) .nil) ⟨rfl,rfl⟩
   (R:=λz cse m p=>cse=[]/\∃v,z=(base j).at (q.put (some d) v) (.inRegion az aK::aG)/\gV m v p) (X1 q) ?_
  .have e:Item.inRegion az (aI::aK)::aG=.inRegion ops (i::rest)::k:=e;cases e;exact r.dst _ d' AN
  rintro ρ z cse m p aO bb w' g' U ⟨rfl,v,rfl,hv⟩ H A L W;cases A;obtain⟨a',rfl,F,E⟩:=Il EQ Y H;obtain⟨u,S,rfl⟩:=X0 L Q r.all h0 F E;have hlen:(D csZ.length).d=csZ.length:=r.d _;have key:∃V,g'=bf V csZ/\eY (D csZ.length) ((base j).at (q.put (some d) u) (.inRegion az aK::aG)) V:=by generalize X:bf ((base j).at (q.put (some d) u) (.inRegion az aK::aG)) ([]++csZ)=g0 at W;cases W with|same g hl=>grind[bf]|gU h v=>cases X;exact⟨_,rfl,h⟩|under a h=>cases X;have:=h.lt;grind
  obtain⟨V,rfl,N⟩:=key;obtain⟨b,rfl,B⟩:=eY.act N;have e:b=aF.put (some d) u:=by
   obtain⟨t,ds⟩:=b;have e1:ds=aF.defers:=B.defers.trans (by rw[put_defers,y.defers]);subst e1;show _=(⟨aF.tmps.setIfInBounds d u,aF.defers⟩:Act);congr 1
   have hs:t.size=(aF.tmps.setIfInBounds d u).size:=by rw[Array.size_setIfInBounds,y.size,<-iz q (some d) u];exact B.size
   refine vch λi=>?_;cases K:(D csZ.length).T i with
   |false=>have I:t[i]?=(q.tmps.setIfInBounds d u)[i]?:=B.same i K;rw[I,vaq,vaq,y.size,y.same i K]
   |true=>
    have hK:=r.aW _ i K;have I:t[i]?=(D csZ.length).V i:=B.kept i hK;have J:d≠i:=λx=>by have:=r.dst csZ.length d p9;grind
    rw[I,vaq,vcy J,y.kept i hK]
  grind
def wp_move(e:(cJ P).Good)(m:Home O P M Shun w){f:ual}(j:jX P f){a:Act}(l:aL (bU M) a.tmps a.tmps)(hd:a.defers=[]){k k':uab}(hk:k.all (fM P)=true)(u:k'.all (fM P)=true){cs:fA}{Q:aH->Act->aH->Prop}(hrun:∀c,fX (cJ P) M (gT M) w c->∀T,∀(b:Frame)(cs:fA),∃a1 w1,Q c a1 w1/\a1.defers=[]/\Steps (aa P true) (lone (b.at a k) cs {c with tape:=T}) (lone (b.at a1 k') cs w1))(v:∀ρ c a1 w1 a' w',fX (cJ P) M (gT M) w c->Q c a1 w1->aL ρ a1.tmps a'.tmps->a'.defers=[]->Behind O P M Shun w ρ w1 w'->ca P Post n Shun 0 (bf ((base f).at a' k') cs) w'):
 ca P Post n Shun 0 (bf ((base f).at a k) cs) w:=by
 refine XQ e m (f:=f) (cs0:=[]) (bs:=cs) (Ik e j l hd hk) .nil ⟨U,U⟩ (R:=λg cse c h=>cse=[]/\∃a1,g=(base f).at a1 k'/\a1.defers=[]/\Q c a1 h) (λc i T=>?_) ?_
 .obtain⟨a1,w1,t,s,r⟩:=hrun c i T (base f) [eI f];grind
 .rintro ρ g cse c h y x w' i ⟨rfl,a1,rfl,o,hq⟩ p d q;cases d;grind[Il]
end
end
variable{fJ:Code}{bC:Func}
section
variable{O:gp}
def cO(M:c5)(w w':aH):Prop:=∀b c e fr,M b->w.heap[b]?=some (.cells c e fr)->w'.heap[b]?=some (.cells c e fr)
theorem cO.refl(M:c5)(w:aH):cO M w w:=λ_ _ _ _ _ h=>h
theorem cO.trans{M M':c5}{a b c:aH}(h:cO M a b)(g:∀b,M b->M' b)(k:cO M' b c):cO M a c:=λx c e fr d f=>k x c e fr (g x d) (h x c e fr d f)
def cO.E1{M:c5}{w w':aH}(h:∀b,M b->w'.heap[b]?=w.heap[b]?):cO M w w':=λb _ _ _ a e=>(h b a).trans e
theorem cO.cell{M:c5}{w w':aH}(h:cO M w w'){a:Addr}{v:Value}(g:M a.block)(hv:w.cell? a=some v):w'.cell? a=some v:=by obtain⟨c,e,fr,f,d,b⟩:=wc hv;exact rP (h _ _ _ _ g f) d b
section
variable{P:ck}{Post:fE}{n:Nat}{Shun:uan}{M:c5}{w:aH}
theorem cO.carry{w':aH}(h:cO M w w')(b:Home O P M Shun w):Carry (bU M) w w':=by
 rintro a a' v ⟨⟨f,hd⟩,d,c⟩ hv;have e:a=a':=by obtain⟨x,y,z⟩:=a';obtain⟨p,q,r⟩:=a;grind
 subst e;exact⟨v,h.cell hd hv,b.cell hd hv⟩
def QQ{ρ:Ren}(e:∀a b c,ρ.rel a b->ρ.rel a c->b=c){x y:dC}(h:aL ρ x y)(d:aL ρ x x):y=x:=by
 apply Array.ext
 .exact h.size.symm
 .intro i hi f;exact(LW e (d.get i x[i] x[i] AN AN) (h.get i x[i] y[i] AN AN)).symm
def Behind.alh{ρ:Ren}{m k w':aH}(h:Behind O P M Shun w ρ k w')(n:Home O P M Shun w)(B:fX (cJ P) M (gT M) w m)(hk:∀b c e z,M b->m.heap[b]?=some (.cells c e z)->k.heap[b]?=some (.cells c e z)):cO M w w':=by
 intro b c e fr a i;obtain⟨q,u,C⟩:=B.cells n.cl a i;have x:=C a;subst x;have y:=hk b c e _ a u;obtain⟨S,j⟩:=h.rel;obtain⟨o,o',g,f,r⟩:=j.obj b b (h.le.1 b b ⟨U,a⟩);rw[y]at g;cases g;cases r with
 |@cells _ E _ _ A t s=>
  have v:A=q:=s.2 U;subst v;obtain⟨D,l,d⟩:=n.cl b a;rw[i]at l;cases l;rcases d with d|d
  .cases d with|cells _ p _=>rw[QQ j.one t (p.mono h.le)]at f;exact f
  .exact d.elim
def ali{ρ:Ren}{r w':aH}(f:Behind O P M Shun w ρ r w'){a a':Act}(l:aL (bU M) a.tmps a.tmps)(hd:a.defers=[])(g:a'.defers=[]){dst:Option Tmp}{v:Value}(h:aL ρ (a.put dst v).tmps a'.tmps)(q:∀d,dst=some d->d<a.tmps.size):
 ∃u,a'=a.put dst u/\(dst≠none->ap ρ v u):=by
 obtain⟨b,m⟩:=a';have g:m=[]:=g;subst g;obtain⟨S,p⟩:=f.rel;cases dst with
 |none=>refine⟨undef,?_,AN⟩;have e:b=a.tmps:=QQ p.one h (l.mono f.le);subst e;obtain⟨t,ds⟩:=a;have hd:ds=[]:=hd;subst hd;rfl
 |some d=>
  have i:=q d U;have hsz:b.size=a.tmps.size:=by have:=h.size;grind[iz]
  have o:b[d]?=some (b[d]'(hsz▸i)):=AN;refine⟨b[d]'(hsz▸i),?_,λ_=>h.get d _ _ (by simp[Act.put,i]) o⟩;show _=(⟨a.tmps.setIfInBounds d _,a.defers⟩:Act);rw[hd];congr 1
  apply Array.ext
  .grind
  .intro j k c;have x:j<a.tmps.size:=AN;apply vbq;rw[<-vak k,<-vak c,vaq];by_cases s:d=j
   .grind
   .simp[s];have n:ap ρ a.tmps[j] b[j]:=h.get j _ _ (by grind[Act.put]) AN;rw[vak k,vak x,f.same (l.get j _ _ AN AN) n]
variable{f:ual}{a:Act}{ops:eQ}{i:Nat}{rest:uag}{k:uab}{cs:fA}{o:Oper}
def alj(t:(cJ P).Good)(A:Home O P M Shun w)(s:jX P f)(l:aL (bU M) a.tmps a.tmps)(hd:a.defers=[])(hk:(Item.inRegion ops []::k).all (fM P)=true)(r:ops[i]?=some o)(p:Region.wanted o (yielded ops a.tmps)=true)(y:∀d,o.dst=some d->d<a.tmps.size){gV:ubq}(hrun:∀c,fX (cJ P) M (gT M) w c->∀T,∃v w1,gV c v w1/\((execOp a.eval o).run (aa P true) {c with tape:=T}=.ok (.value v) w1\/((execOp a.eval o).run (aa P true) {c with tape:=T}=.ok .skip w1/\v=undef)))(z:∀ρ c v w1 u w',fX (cJ P) M (gT M) w c->gV c v w1->(o.dst≠none->ap ρ v u)->Behind O P M Shun w ρ w1 w'->aL (bU (pA ρ)) (a.put o.dst u).tmps (a.put o.dst u).tmps->ca P Post n Shun 0 (bf ((base f).at (a.put o.dst u) (.inRegion ops rest::k)) cs) w'):
 ca P Post n Shun 0 (bf ((base f).at a (.inRegion ops (i::rest)::k)) cs) w:=by
 simp only[vbi,vae]at hk;refine wp_move t A s l hd (k:=.inRegion ops (i::rest)::k) (k':=.inRegion ops rest::k) Gz Gz (Q:=λc a1 w1=>∃v,a1=a.put o.dst v/\gV c v w1) (λc j T b cs=>?_) ?_
 .obtain⟨v,w1,e,g⟩:=hrun c j T;refine⟨a.put o.dst v,w1,⟨v,U,e⟩,EQ,.one (step_lone_go ?_)⟩;rw[stepG_op r p];have B:∀v,(b.at a (.inRegion ops (i::rest)::k)).finish v=b.at (a.put o.dst v) (.inRegion ops rest::k):=by grind[Frame.finish_at]
  rcases g with g|⟨g,rfl⟩
  .simp_all[stepG.apply]
  simp_all[stepG.apply]
 .rintro ρ c a1 w1 a' w' j ⟨v,rfl,e⟩ m x h;obtain⟨u,rfl,q⟩:=ali h l hd x m y;exact z ρ c v w1 u w' j e q h (h.all m)
def alk(x:(cJ P).Good)(l:Home O P M Shun w)(r:jX P f)(t:aL (bU M) a.tmps a.tmps)(hd:a.defers=[])(hk:(Item.inRegion ops []::k).all (fM P)=true)(q:ops[i]?=some o)(m:Region.wanted o (yielded ops a.tmps)=true){d:Tmp}(y:o.dst=some d/\d<a.tmps.size){v:Value}(hv:ap (bU M) v v)(hrun:∀c,fX (cJ P) M (gT M) w c->∀T,(execOp a.eval o).run (aa P true) {c with tape:=T}=.ok (.value v) {c with tape:=T})(z:∀M' w',(∀b,M b->M' b)->Home O P M' Shun w'->pz w w'->cO M w w'->aL (bU M') (a.put (some d) v).tmps (a.put (some d) v).tmps->ca P Post n Shun 0 (bf ((base f).at (a.put (some d) v) (.inRegion ops rest::k)) cs) w'):
 ca P Post n Shun 0 (bf ((base f).at a (.inRegion ops (i::rest)::k)) cs) w:=by
 refine alj x l r t hd hk q m AN (gV:=λc v' w1=>v'=v/\∃T,w1={c with tape:=T}) (λc j T=>⟨v,_,⟨U,T,U⟩,AN⟩) ?_;rintro ρ c v' w1 u w' j ⟨rfl,T,rfl⟩ p g h;have e:u=v':=g.same hv (p AN);subst e;rw[y.1]at h⊢;exact z (pA ρ) w' (λb s=>g.mem s) g.fk g.since (g.alh l j AN) h
def X4{d:Nat}{g:ual}{args:uba}{ats:uau}(c:o.op=.call {callee:=.value (.func g),args,argTypes:=ats})(hg:P.funcs[g]?=some bC)(l:(bC.name== "runtime.NumGoroutine")=false)(m:bC.body=some fJ){vs:dC}(p:args.map a.eval=vs){V:ube}(hn:n+16*d<=200)(C:Home O P M Shun w)(t:wC P M f a ops i k)(s:ops[i]?=some o)(r:Region.wanted o (yielded ops a.tmps)=true)(q:∀k,eb O P Post g vs M (w.at k) d V)(A:∀u M' w' e h,e<=n+16*d->Home O P M' h w'->(∀b,M b->M' b)->ap (bU M') u u->pz w w'->V u M' w'->ca P Post e h 0 (bf ((base f).at (a.put o.dst u) (.inRegion ops rest::k)) cs) w'):
 ca P Post n Shun 0 (bf ((base f).at a (.inRegion ops (i::rest)::k)) cs) w:=by
 refine wo (mh U (w1:=w) (es:=#[]) (λk'=>(stepG_enter s r (by simp[base]) (gH.pw (b:=base f) c hg l m p _).1).trans (vbn (λes=>GStep.go _ _ es) (gH.pw (b:=base f) c hg l m p _).2)) Ab IB (.stop λk'=>?_));refine q k' n Shun hn (C.at _) f a ops i rest k cs t (λu M' w' e h z y x v j B=>?_);have:=A u M' w' e h z y x v ⟨j.size,j.later,j.output,j.tape⟩ B;grind
theorem count_set{am:uaw}{i:Nat}(h:am.getD i true=false):(am.setIfInBounds i true).toList.count false+1=am.toList.count false:=by
 have hi:i<am.size:=by grind
 have hv:am[i]=false:=BB;grind
def QR(d:P.follows .mixedOrders=true){I:Array Bool->Act->(Nat->Prop)->aH->Nat->(Loc->Prop)->Prop}(v:∀am a M w n Shun k,I am a M w n Shun->I am a M (w.at k) n Shun)(hstep:∀am a M w n Shun i o rest,I am a M w n Shun->am.getD i true=false->ops[i]?=some o->(∀e∈o.after,Region.binds .any e=true->am.getD e.on false=true)->(∀a' M' w' b c,I (am.setIfInBounds i true) a' M' w' b c->ca P Post b c 0 (bf ((base f).at a' (.inRegion ops rest::k)) cs) w')->ca P Post n Shun 0 (bf ((base f).at a (.inRegion ops (i::rest)::k)) cs) w)(j:∀am a M w n Shun,I am a M w n Shun->Region.ready .any ops am=[]->ca P Post n Shun 0 (bf ((base f).at a (.inRegion ops []::k)) cs) w){id:Nat}(h0:I (Array.replicate ops.size false) a M w n Shun):ca P Post n Shun 0 (bf ((base f).at a (.code (.region id ops true)::k)) cs) w:=by
 have key:∀(m t:Nat)(am:uaw)(a:Act)(M:c5)(w:aH)(n:Nat)(Shun:uan),am.toList.count false<=m->I am a M w n Shun->ca P Post n Shun 0 (bf ((base f).at a (.inRegion ops (Region.linearise.go .any ops m t am [])::k)) cs) w:=by
  intro m;induction m with
  |zero=>intro t am a M w n Shun h hI;refine j am a M w n Shun hI ?_;cases g:Region.ready .any ops am with|nil=>rfl|cons x xs=>have q:x∈Region.ready .any ops am:=AN;grind[count_set,mem_ready]
  |succ m p=>
   intro t am a M w n Shun h hI;simp only[Region.linearise.go];change ca P Post n Shun 0 (bf ((base f).at a (.inRegion ops (match(Region.ready .any ops am)[t % (Region.ready .any ops am).length]? with
    |some i=>Region.linearise.go .any ops m (t / (Region.ready .any ops am).length) (am.setIfInBounds i true) [i]
    |none=>[].reverse)::k)) cs) w
   cases hi:(Region.ready .any ops am)[t % (Region.ready .any ops am).length]? with
   |none=>
    have l:Region.ready .any ops am=[]:=by cases g:Region.ready .any ops am with|nil=>rfl|cons x xs=>grind[Nat.mod_lt]
    grind
   |some i=>simp only[];rw[linearise_go_acc,List.reverse_singleton,List.singleton_append];obtain⟨u,o,s,r⟩:=mem_ready.1 (List.mem_of_getElem? hi);grind[count_set]
 refine wo (er.mk U λk'=>⟨_,_,_,stepG_region_draw,Ab,vad _,.stop λk''=>?_⟩);simp only[Region.schedule,d,Bool.true_or,vbx];exact key ops.size _ _ a M _ n Shun Ab (AN:I _ a M (w.at k'') n Shun)
end
end
variable{y:Code}
section
variable{O:gp}
def ly(R:uak)(e:Exit)(a:Act)(w:aH):Prop:=e=.normal/\R a w
section
variable{P:ck}
def L4{ops:eQ}{R:uak}(l2:uag)(l:uag):∀(a:Act)(w:aH),wpOps P ops (ly R) l a w->∀(b:Frame)(k:uab)(cs:fA),
 ∃a' w',R a' w'/\Steps P (lone (b.at a (.inRegion ops (l++l2)::k)) cs w) (lone (b.at a' (.inRegion ops l2::k)) cs w'):=by
 induction l with
 |nil=>exact λa w h b k cs=>⟨a,w,h.2,.refl _ _⟩
 |cons i rest j=>
  intro a w h b k cs;simp[wpOps]at h;simp;cases m:ops[i]? with
  |none=>simp[m]at h;obtain⟨a',w',hq,c⟩:=j a w h b k cs;have hs:=step_op_skip (P:=P) (b:=b) (a:=a) (k:=k) (cs:=cs) (w:=w) (ops:=ops) (i:=i) (rest:=rest++l2) AN;simp[m,Act.put]at hs;exact⟨a',w',hq,.head hs c⟩
  |some o=>
   simp[m]at h;by_cases s:Region.wanted o (yielded ops a.tmps)=true
   .simp[s]at h;rcases h with h|⟨y,r,n,hq⟩
    case inr=>cases hq.1
    simp[Oper.wp,Oper.upon]at h;have hg:=stepG_op (P:=P) (b:=b) (k:=k) (cs:=cs) (w:=w) (rest:=rest++l2) m s;have z:∀v,(b.at a (.inRegion ops (i::(rest++l2))::k)).finish v=b.at (a.put o.dst v) (.inRegion ops (rest++l2)::k):=by grind[Frame.finish_at]
    split at h
    .rename_i v w' p;obtain⟨a',w'',hq,c⟩:=j _ _ h b k cs;refine⟨a',w'',hq,.head (step_lone_go ?_) c⟩;simp_all[stepG.apply]
    .rename_i w' p;obtain⟨a',w'',hq,c⟩:=j _ _ h b k cs;refine⟨a',w'',hq,.head (step_lone_go ?_) c⟩;simp_all[stepG.apply]
    .rename_i d w' p;obtain⟨a',w'',hq,c⟩:=j _ _ h b k cs;refine⟨a',w'',hq,.head (step_lone_go ?_) c⟩;have:({b.at a (.inRegion ops (i::(rest++l2))::k)with defers:=d::a.defers}:Frame).finish undef=
      b.at ({a with defers:=d::a.defers}.put o.dst undef) (.inRegion ops (rest++l2)::k):=by
      have:=vcc b {a with defers:=d::a.defers} ops i (rest++l2) k undef;rw[m]at this;exact this
     rw[hg];simp only[stepG.apply,vat,p,GStep.bare_after];exact vbn (λfr=>GStep.go {frame:=fr,callers:=cs,status:=.running,dying:=none} w') this
    .rename_i f args w' p;obtain⟨e,w'',fr,q,u,_,x⟩:=h (b.at a (.inRegion ops (i::(rest++l2))::k)::cs);have t:step P (lone (b.at a (.inRegion ops (i::(rest++l2))::k)) cs w)=
      .next (lone (Frame.enter P f args .normal) (b.at a (.inRegion ops (i::(rest++l2))::k)::cs) w'):=
      step_lone_go (by simp_all[stepG.apply,Frame.at])
     cases e with
     |returned v=>obtain⟨a',g,hq,c⟩:=j _ _ q b k cs;refine⟨a',g,hq,.head t (Steps.trans u (.head ?_ c))⟩;grind[step_leave_returned]
     |panicked chain=>cases q.1
     |outgrown=>obtain⟨r,n,hq⟩:=q;cases hq.1
    .rename_i row args w' p;obtain⟨v,w'',q,u⟩:=h (b.at a (.inRegion ops (i::(rest++l2))::k)) cs;have t:step P (lone (b.at a (.inRegion ops (i::(rest++l2))::k)) cs w)=
      .next (lone (Frame.ofRow P row args .normal) (b.at a (.inRegion ops (i::(rest++l2))::k)::cs) w'):=
      step_lone_go (by simp_all[stepG.apply,Frame.at])
     obtain⟨a',g,hq,c⟩:=j _ _ q b k cs;refine⟨a',g,hq,.head t (Steps.trans ?_ c)⟩;grind
    .cases h.1
    grind
   .simp[s]at h;obtain⟨a',w',hq,c⟩:=j _ _ h b k cs;have hs:=step_op_skip (P:=P) (b:=b) (a:=a) (k:=k) (cs:=cs) (w:=w) (ops:=ops) (i:=i) (rest:=rest++l2)
     AN
    simp[m]at hs;exact⟨a',w',hq,.head hs c⟩
def cb(P:ck)(ks ks':uab)(Q:uak)(a:Act)(w:aH):Prop:=
 ∀(b:Frame)(cs:fA),∃a1 w1,Q a1 w1/\Steps P (lone (b.at a ks) cs w) (lone (b.at a1 ks') cs w1)
variable{ks ks':uab}{Q:uak}{a:Act}{w:aH}
def i9(h:Q a w):cb P ks ks Q a w:=λ_ _=>⟨a,w,h,.refl _ _⟩
def wF{c:uab}{w1:aH}(hs:∀(b:Frame)(cs:fA),step P (lone (b.at a ks) cs w)=.next (lone (b.at a c) cs w1))(h:cb P c ks' Q a w1):cb P ks ks' Q a w:=λb cs=>by obtain⟨a1,w2,e,d⟩:=h b cs;exact⟨a1,w2,e,.head (hs b cs) d⟩
def cG{x:Code}(h:cb P (.code x:: .code y::ks) ks' Q a w):cb P (.code (.seq x y)::ks) ks' Q a w:=wF (λ_ _=>step_seq) h
def wG{id:Nat}(h:cb P (.code c:: .inBlock id::ks) ks' Q a w):cb P (.code (.block id c)::ks) ks' Q a w:=wF (λ_ _=>step_block) h
def Iu{id:Nat}(h:cb P ks ks' Q a w):cb P (.inBlock id::ks) ks' Q a w:=wF (λ_ _=>step_inBlock) h
def QT(h:cb P (.code c:: .inLoop c::ks) ks' Q a w):cb P (.code (.loop c)::ks) ks' Q a w:=wF (λ_ _=>step_loop) h
def QU(h:cb P (.code c:: .inLoop c::ks) ks' Q a w):cb P (.inLoop c::ks) ks' Q a w:=wF (λ_ _=>step_inLoop) h
def lz{c:uaq}{x:Code}{t:Bool}(ht:a.eval c=.bool t)(h:cb P (.code (if t then x else y)::ks) ks' Q a w):cb P (.code (.cond c x y)::ks) ks' Q a w:=wF (λb cs=>by rw[step_cond ht]) h
def x7(h:cb P ks ks' Q a w):cb P (.code .skip::ks) ks' Q a w:=wF (λ_ _=>step_skip) h
def L5{id:Nat}{b:uab}(c:exitTo id ks=some b)(h:cb P b ks' Q a w):cb P (.code (.exit id)::ks) ks' Q a w:=wF (λ_ _=>step_exit c) h
def ra{id:Nat}{ops:eQ}(h:cb P (.inRegion ops (List.range' 0 ops.size)::ks) ks' Q a w):cb P (.code (.region id ops false)::ks) ks' Q a w:=wF (λb cs=>by rw[step_region,List.range_eq_range']) h
def tA{ops:eQ}(h:cb P ks ks' Q a w):cb P (.inRegion ops []::ks) ks' Q a w:=wF (λ_ _=>step_region_end) h
def aln(h:c.wp P (ly (cb P ks ks' Q)) a w):cb P (.code c::ks) ks' Q a w:=λb cs=>by obtain⟨e,a1,w1,⟨rfl,hq⟩,d⟩:=h b ks cs;obtain⟨i,w2,g,f⟩:=hq b cs;exact⟨i,w2,g,Steps.trans d f⟩
def pD(P:ck)(fn:Func)(ks:uab)(gV:fE)(a:Act)(w:aH):Prop:=
 ∀(f:ual)(cs:fA),P.funcs[f]?=some fn->∃v w1 fr,gV v w1/\Steps P (lone ((base f).at a ks) cs w) (lone fr cs w1)/\fr.leaving P w1 (.returned v)
def uI{fn:Func}{gV:fE}(h:cb P ks ks' (pD P fn ks' gV) a w):pD P fn ks gV a w:=λf cs b=>by obtain⟨a1,w1,c,i⟩:=h (base f) cs;obtain⟨v,w2,fr,g,e,d⟩:=c f cs b;grind[Steps.trans]
def B4{fn:Func}{gV:fE}{v:Value}(hd:a.defers=[])(b:(results fn a.tmps).run P w=.ok v w)(h:gV v w):pD P fn (.code .ret::ks) gV a w:=λf cs c=>
 ⟨v,w,_,h,.one step_ret,U,hd,U,fn,c,b⟩
def alo{fn:Func}{gV:fE}(h:c.wp P (bodyPost P fn λe w=>∃v,e=.returned v/\gV v w) a w):pD P fn [.code c] gV a w:=λf cs i=>by
 obtain⟨e,a1,w1,hq,g⟩:=h (base f) [] cs;cases e with
 |normal=>obtain⟨hd,v,b,u,e,d⟩:=hq;cases e;exact⟨v,w1,_,d,Steps.trans g (.one step_end),U,hd,U,fn,i,b⟩
 |ret=>obtain⟨hd,v,b,u,e,d⟩:=hq;cases e;obtain⟨todo,hs⟩:=g;exact⟨v,w1,_,d,hs,U,hd,U,fn,i,b⟩
 |panic chain=>obtain⟨_,u,e,_⟩:=hq;cases e
 |exit id=>exact hq.elim
 |goto l=>exact hq.elim
 |outgrown=>obtain⟨u,e,_⟩:=hq;cases e
end
section
variable{P:ck}{Post:fE}{n:Nat}{Shun:uan}{M:c5}{w:aH}{f:ual}{a:Act}{k k':uab}{cs:fA}
def X6(g:(cJ P).Good)(l:Home O P M Shun w)(d:jX P f)(e:aL (bU M) a.tmps a.tmps)(hd:a.defers=[])(hk:k.all (fM P)=true)(h:k'.all (fM P)=true){Q:aH->Act->aH->Prop}(hrun:∀c,fX (cJ P) M (gT M) w c->∀T,cb (aa P true) k k' (λa1 w1=>a1.defers=[]/\Q c a1 w1) a {c with tape:=T})(i:∀ρ c a1 w1 a' w',fX (cJ P) M (gT M) w c->Q c a1 w1->aL ρ a1.tmps a'.tmps->a'.defers=[]->Behind O P M Shun w ρ w1 w'->ca P Post n Shun 0 (bf ((base f).at a' k') cs) w'):
 ca P Post n Shun 0 (bf ((base f).at a k) cs) w:=
 wp_move g l d e hd hk h (λc j T b cs=>by
  obtain⟨a1,w1,⟨p,o⟩,m⟩:=hrun c j T b cs;grind) i
def alp(g:(cJ P).Good)(x:Home O P M Shun w){fn:Func}(j:P.funcs[f]?=some fn)(i:fG P true fn=true)(m:fn.body=some fJ)(o:aL (bU M) a.tmps a.tmps)(hd:a.defers=[])(hk:k.all (fM P)=true){d:ual}{aF:Act}{az:eQ}{aI:Nat}{aK:uag}{aG:uab}{csZ:fA}(l:wC P M d aF az aI aG){gV:ubq}(hrun:∀b,fX (cJ P) M (gT M) w b->∀T,pD (aa P true) fn k (gV b) a {b with tape:=T})(s:∀ρ b v h u w',fX (cJ P) M (gT M) w b->gV b v h->ap ρ v u->Behind O P M Shun w ρ h w'->ca P Post n Shun 0 (bf ((base d).at (aF.put ((az[aI]?).bind (·.dst)) u) (.inRegion az aK::aG)) csZ) w'):
 ca P Post n Shun 0 (bf ((base f).at a k) ((base d).at aF (.inRegion az (aI::aK)::aG)::csZ)) w:=by
 have e:(aa P true).funcs[f]?=some fn:=bo j i;refine ala g x (Ik g ⟨fn,fJ,e,m⟩ o hd hk) l (gV:=gV) (λb t T c cs=>?_) s;obtain⟨v,w1,fr,r,q,p⟩:=hrun b t T f (c::cs) e;exact⟨v,w1,r,Steps.trans q (.one (step_leave_returned p))⟩
def B5{fn:Func}(b:P.funcs[f]?=some fn)(a:fG P true fn=true)(c:fn.body=some fJ):jX P f:=⟨fn,fJ,bo b a,c⟩
end
end
section
variable{O:gp}
def X7(G:ube):Prop:=∀v M w M' w',Carry (bU M) w w'->ap (bU M) v v->(∀b,M b->M' b)->cO M w w'->G v M w->G v M' w'
structure sq(O:gp)(P:ck)(bs:uac)(dd:uas)(m N:Nat)(G:uae)(sz:Nat)(aD:c5)(w0:aH)(g n0 tB:Nat)(am:uaw)(a:Act)(M:c5)(w:aH)(n:Nat)(Shun:uan):Prop where
 fk:Home O P M Shun w
 len:am.size=sz
 size:a.tmps.size=N
 defers:a.defers=[]
 all:aL (bU M) a.tmps a.tmps
 sub:∀b,aD b->M b
 keep:cO aD w0 w
 since:pz w0 w
 base:∀p∈bs,a.tmps[p.1]?=some p.2
 facts:∀j,j<m->am.getD j false=true->∃v,a.tmps[dd j]?=some v/\G j v M w
 most:n<=tB/\(am.getD g false=false->n<=n0)
section
variable{P:ck}{bs:uac}{dd:uas}{m N sz:Nat}{G:uae}{aD:c5}{w0:aH}{g n0 tB:Nat}{am:uaw}{a:Act}{M:c5}{w:aH}{n:Nat}{Shun:uan}
def sq.start{Shun:uan}(d:Home O P aD Shun w0)(hs:a.tmps.size=N)(hd:a.defers=[])(c:aL (bU aD) a.tmps a.tmps)(b:∀p∈bs,a.tmps[p.1]?=some p.2)(hn:n<=tB/\n<=n0):sq O P bs dd m N G sz aD w0 g n0 tB (Array.replicate sz false) a aD w0 n Shun:=
 ⟨d,Ab,hs,hd,c,λ_ h=>h,cO.refl _ _,pz.refl _,b,λj _ h=>by
  simp_all[Array.getD],hn.1,λ_=>hn.2⟩
theorem sq.at(f:∀j v M w k,G j v M w->G j v M (w.at k))(k:Nat)(h:sq O P bs dd m N G sz aD w0 g n0 tB am a M w n Shun):sq O P bs dd m N G sz aD w0 g n0 tB am a M (w.at k) n Shun:=
 ⟨(h.fk.at _),h.len,h.size,h.defers,h.all,h.sub,h.keep,⟨h.since.size,h.since.later,h.since.output,h.since.tape⟩,h.base,λj c b=>by
  obtain⟨v,e,d⟩:=h.facts j c b;grind,h.most⟩
theorem sq.eval(h:sq O P bs dd m N G sz aD w0 g n0 tB am a M w n Shun){t:Nat}{v:Value}(b:(t,v)∈bs):a.eval (.tmp t)=v:=by have:=h.base _ b;simp[Act.eval,this]
theorem k8{am:uaw}{i j:Nat}(hi:i<am.size):(am.setIfInBounds i true).getD j false=true↔j=i\/am.getD j false=true:=by
 rcases Nat.lt_or_ge j am.size with x|x
 .simp only[Array.getD,Array.size_setIfInBounds,x,dif_pos,Array.getInternal_eq_getElem,Array.getElem_setIfInBounds];grind
 grind
theorem sq.step(h:sq O P bs dd m N G sz aD w0 g n0 tB am a M w n Shun){j:Nat}{u:Value}{M':c5}{w':aH}{c:Nat}{o:uan}(t:j<m/\j<sz/\dd j<N)(D:∀p∈bs,dd j≠p.1)(x:∀i,i<m->i≠j->dd j≠dd i)(z:∀i,i<m->X7 (G i))(B:Home O P M' o w')(d:∀b,M b->M' b)(hk:cO M w w')(hs:pz w w')(s:ap (bU M') u u)(C:G j u M' w')(hn:c<=tB/\(j≠g->c<=n)):sq O P bs dd m N G sz aD w0 g n0 tB (am.setIfInBounds j true) (a.put (some (dd j)) u) M' w' c o:=by
 have A:aL (bU M') a.tmps a.tmps:=h.all.mono (uH d);refine⟨B,by simp[h.len],ED,GQ,?_,λb y=>d b (h.sub b y),h.keep.trans h.sub hk,h.since.trans hs,λp k=>?_,λi hi l=>?_,hn.1,λl=>?_⟩
 .exact A.set s _
 .have:=h.base p k;simp[Act.put,D p k];grind
 .by_cases e:i=j
  .subst e;exact⟨u,by simp[Act.put,h.size,t.2.2],C⟩
  .have q:am.getD i false=true:=((k8 Ff).1 l).resolve_left e;obtain⟨v,f,r⟩:=h.facts i hi q;refine⟨v,?_,z i hi v M w M' w' (hk.carry h.fk) ?_ d hk r⟩
   .simp_all[Act.put]
   .exact h.all.get _ _ _ f f
 .by_cases e:j=g
  .have:=(k8 (am:=am) (i:=j) (j:=g) Ff).2 (.inl e.symm);grind
  .refine vac (hn.2 e) (h.most.2 ?_);simp_all
theorem tC{o:Oper}(h:o.guard=none)(y:Nat->Option Bool):Region.wanted o y=true:=by grind[Region.wanted]
variable{Post:fE}{f:ual}{ops:eQ}{rest:uag}{k:uab}{cs:fA}{o:Oper}{j:Nat}
def sq.val(x:(cJ P).Good)(u:jX P f)(hk:(Item.inRegion ops []::k).all (fM P)=true)(hd:∀i,i<m->i<sz/\dd i<N/\(∀p∈bs,dd i≠p.1)/\∀c,c<m->c≠i->dd i≠dd c)(q:∀i,i<m->X7 (G i))(h:sq O P bs dd m N G sz aD w0 g n0 tB am a M w n Shun)(t:ops[j]?=some o)(d:j<m)(y:o.dst=some (dd j))(B:o.guard=none)(v:Value)(hv:ap (bU M) v v)(hrun:∀e,fX (cJ P) M (gT M) w e->∀T,(execOp a.eval o).run (aa P true) {e with tape:=T}=.ok (.value v) {e with tape:=T})(D:G j v M w)(K:∀a' M' w' l s,sq O P bs dd m N G sz aD w0 g n0 tB (am.setIfInBounds j true) a' M' w' l s->ca P Post l s 0 (bf ((Conc.base f).at a' (.inRegion ops rest::k)) cs) w'):
 ca P Post n Shun 0 (bf ((Conc.base f).at a (.inRegion ops (j::rest)::k)) cs) w:=by
 obtain⟨d1,r,A,z⟩:=hd j d;refine alk x h.fk u h.all h.defers hk t (tC B _) ⟨y,by rw[h.size];exact r⟩ hv hrun λM' w' hs C E b F=>?_;exact K _ M' w' n Shun (h.step ⟨d,d1,r⟩ A z q C hs b E (hv.mono (uH hs)) (q j d v M w M' w' (b.carry h.fk) hv hs b D) ⟨h.most.1,AN⟩)
def L8{ops:eQ}(c:(List.range ops.size).all (λj=>match ops[j]? with|some o=>o.after.all λe=> !Region.binds .any e||decide (e.on<j)|none=>true)=true)(h:am.size=ops.size)(f:Region.ready .any ops am=[]):∀j,j<ops.size->am.getD j false=true:=by
 intro j;induction j using Nat.strongRecOn with
 | _ j d=>
  intro a;apply vax;intro hn;have g:j∈Region.ready .any ops am:=by
   refine mem_ready.2 ⟨?_,ops[j],AN,λe b i=>?_⟩
   .grind
   .have:=List.all_eq_true.1 c j AN;simp only[vak a]at this;have:=vap.1 this e b;grind
  grind
end
end
variable{gq:Tmp}
section
open RowKit
variable{O:gp}
structure tD(n0:Nat)(ρ:Ren)(w w':aH):Prop where
 cells:Carry ρ w w'
 types:∀a b c e z,ρ.rel a b->w.heap[a]?=some (.cells c e z)->∃c',w'.heap[b]?=some (.cells c' e z)/\c'.size=c.size
 new:∀a b,ρ.rel a b->n0<=a->n0<=b
 inj:∀a a' b,ρ.rel a b->ρ.rel a' b->a=a'
def my(n0:Nat)(R:uaz):Prop:=∀ρ w w' v v',tD n0 ρ w w'->ap ρ v v'->R w v->R w' v'
def oM(n0:Nat)(I:uak):Prop:=∀ρ a a' w w',tD n0 ρ w w'->aL ρ a.tmps a'.tmps->I a w->I a' w'
def B6(aD:c5)(n0:Nat)(I:uak):Prop:=∀ρ a a' w w',tD n0 ρ w w'->(∀b,aD b->ρ.rel b b)->(∀a b b',ρ.rel a b->ρ.rel a b'->b=b')->aL ρ a.tmps a'.tmps->I a w->I a' w'
def oM.p{n0:Nat}{I:uak}(h:oM n0 I){aD:c5}:B6 aD n0 I:=λρ a a' w w' b _ _=>h ρ a a' w w' b
def QX{M:c5}:∀a b c,(bU M).rel a b->(bU M).rel a c->b=c:=λ_ _ _ e d=>e.1.symm.trans d.1
def tE(N:Nat)(fs:List (Nat×(aH->Value->Prop)))(a:Act)(w:aH):Prop:=a.tmps.size=N/\∀p∈fs,∃v,a.tmps[p.1]?=some v/\p.2 w v
section
variable{P:ck}{Post:fE}{n:Nat}{Shun:uan}{M:c5}{w:aH}
def Behind.lA{n0:Nat}{ρ:Ren}{g w':aH}(h:Behind O P M Shun w ρ g w')(hn:n0<=w.heap.size):tD n0 ρ g w':=by
 refine⟨h.carry,λa b c e z r k=>?_,λa b r q=>?_,(by obtain⟨S,d⟩:=h.rel;exact d.inj)⟩
 .obtain⟨S,d⟩:=h.rel;obtain⟨o,o',f,j,i⟩:=d.obj a b r;rw[k]at f;cases f;cases i with|@cells _ s _ _ p m l=>have n:p=z:=l.2 U;subst n;exact⟨_,j,m.size.symm⟩
 .rcases h.old a b r with⟨e,-⟩|h
  .grind
  .omega
def Home.lA{n0:Nat}(g:Home O P M Shun w){d:aH}(f:fX (cJ P) M (gT M) w d)(T:Nat->Question->Nat):tD n0 (bU M) w {d with tape:=T}:=by refine⟨λa a' v r h=>f.carry g.cl a a' v r h,λa b c e z r j=>?_,λa b r l=>r.1▸l,λa a' b r i=>r.1.trans i.1.symm⟩;obtain⟨rfl,k⟩:=r;obtain⟨m,n,o⟩:=f.cells g.cl k j;grind
def cO.lA{n0:Nat}{w':aH}(h:cO M w w')(j:Home O P M Shun w):tD n0 (bU M) w w':=by refine⟨h.carry j,λa b c e z r f=>?_,λa b r i=>r.1▸i,λa a' b r d=>r.1.trans d.1.symm⟩;obtain⟨rfl,g⟩:=r;exact⟨_,h _ _ _ _ g f,U⟩
def Behind.alr{ρ:Ren}{m k w':aH}(h:Behind O P M Shun w ρ k w')(n:Home O P M Shun w)(B:fX (cJ P) M (gT M) w m){N:c5}(a5:∀b,N b->M b)(hk:∀b c e z,N b->m.heap[b]?=some (.cells c e z)->k.heap[b]?=some (.cells c e z)):cO N w w':=by
 intro b c e fr a i;obtain⟨q,u,C⟩:=B.cells n.cl (a5 b a) i;have x:=C (a5 b a);subst x;have y:=hk b c e _ a u;obtain⟨S,j⟩:=h.rel;obtain⟨o,o',g,f,r⟩:=j.obj b b (h.le.1 b b ⟨U,a5 b a⟩);rw[y]at g;cases g;cases r with
 |@cells _ E _ _ A t s=>
  have v:A=q:=s.2 U;subst v;obtain⟨D,l,d⟩:=n.cl b (a5 b a);rw[i]at l;cases l;rcases d with d|d
  .cases d with|cells _ p _=>rw[QQ j.one t (p.mono h.le)]at f;exact f
  .exact d.elim
variable{f:ual}{a:Act}{k k':uab}{cs:fA}{n0:Nat}
structure Held(O:gp)(P:ck)(aD:c5)(w0:aH)(n0:Nat)(a:Act)(M:c5)(w:aH)(Shun:uan):Prop where
 fk:Home O P M Shun w
 sub:∀b,aD b->M b
 since:pz w0 w
 keep:cO (λb=>aD b/\b<n0) w0 w
 all:aL (bU M) a.tmps a.tmps
 defers:a.defers=[]
 size:n0<=w.heap.size
def Held.start(c:Home O P M Shun w)(hn:n0<=w.heap.size)(b:aL (bU M) a.tmps a.tmps)(hd:a.defers=[]):Held O P M w n0 a M w Shun:=⟨c,λ_ h=>h,.refl _,.refl _ _,b,hd,hn⟩
variable{aD:c5}{w0:aH}
theorem Held.at(h:Held O P aD w0 n0 a M w Shun)(k:Nat):Held O P aD w0 n0 a M (w.at k) Shun:=
 ⟨(h.fk.at _),h.sub,⟨h.since.size,h.since.later,h.since.output,h.since.tape⟩,h.keep,h.all,h.defers,h.size⟩
def Held.next(h:Held O P aD w0 n0 a M w Shun){ρ:Ren}{f e w':aH}{T:Nat->Question->Nat}(j:fX (cJ P) M (gT M) w f)(d:Behind O P M Shun w ρ e w')(c:Below n0 {f with tape:=T} e){a':Act}(i:aL (bU (pA ρ)) a'.tmps a'.tmps)(hd:a'.defers=[]):Held O P aD w0 n0 a' (pA ρ) w' Shun:=
 ⟨d.fk,λb c=>d.mem (h.sub b c),h.since.trans d.since,h.keep.trans (M':=λb=>M b/\b<n0) (λb c=>⟨h.sub b c.1,c.2⟩) (d.alr h.fk j AN λb _ _ _ hn g=>(c.block b hn.2).trans g),i,hd,vac h.size d.since.size⟩
def L9(p:(cJ P).Good)(m:jX P f)(H:Held O P aD w0 n0 a M w Shun)(hk:k.all (fM P)=true)(r:k'.all (fM P)=true){I J:uak}(hI:B6 aD n0 I)(q:B6 aD n0 J)(h0:I a w)(hrun:∀W,n0<=W.heap.size->I a W->cb (aa P true) k k' (λa1 w1=>a1.defers=[]/\J a1 w1/\Below n0 W w1) a W)(s:∀a' M' w',Held O P aD w0 n0 a' M' w' Shun->J a' w'->ca P Post n Shun 0 (bf ((base f).at a' k') cs) w'):
 ca P Post n Shun 0 (bf ((base f).at a k) cs) w:=by
 refine X6 p H.fk m H.all H.defers hk r (Q:=λd a1 w1=>J a1 w1/\∃T,Below n0 {d with tape:=T} w1) (λd e T b cs=>?_) ?_
 .obtain⟨a1,w1,⟨l,j,h⟩,i⟩:=hrun {d with tape:=T} (by show n0<=d.heap.size;rw[e.size];exact H.size) (hI _ _ _ _ _ (H.fk.lA e T) (λb g=>⟨U,H.sub b g⟩) QX H.all h0) b cs;grind
 .rintro ρ d a1 w1 a' w' e ⟨l,T,j⟩ h i c;exact s a' (pA ρ) w' (H.next e c j (c.all h) i) (q _ _ _ _ _ (c.lA H.size) (λb g=>c.le.1 b b ⟨U,H.sub b g⟩) (by obtain⟨S,o⟩:=c.rel;exact o.one) h l)
def QY(c:(cJ P).Good)(b:jX P f)(H:Held O P aD w0 n0 a M w Shun)(hk:k.all (fM P)=true)(e:k'.all (fM P)=true){I J:uak}(hI:oM n0 I)(d:oM n0 J)(h0:I a w)(hrun:∀W,n0<=W.heap.size->I a W->cb (aa P true) k k' (λa1 w1=>a1.defers=[]/\J a1 w1/\Below n0 W w1) a W)(g:∀a' M' w',Held O P aD w0 n0 a' M' w' Shun->J a' w'->ca P Post n Shun 0 (bf ((base f).at a' k') cs) w'):
 ca P Post n Shun 0 (bf ((base f).at a k) cs) w:=
 L9 c b H hk e hI.p d.p h0 hrun g
def Fl(s:(cJ P).Good){fn:Func}(p:P.funcs[f]?=some fn)(o:fG P true fn=true)(r:fn.body=some fJ)(H:Held O P aD w0 n0 a M w Shun)(hk:k.all (fM P)=true){i:ual}{aF:Act}{az:eQ}{aI:Nat}{aK:uag}{aG:uab}{csZ:fA}(q:wC P aD i aF az aI aG){I:uak}{gV:uaz}(hI:oM n0 I)(x:my n0 gV)(h0:I a w)(hrun:∀W,n0<=W.heap.size->I a W->pD (aa P true) fn k (λv w1=>gV w1 v/\Below n0 W w1) a W)(t:∀u M' w',Home O P M' Shun w'->(∀b,aD b->M' b)->ap (bU M') u u->pz w0 w'->cO (λb=>aD b/\b<n0) w0 w'->gV w' u->ca P Post n Shun 0 (bf ((base i).at (aF.put ((az[aI]?).bind (·.dst)) u) (.inRegion az aK::aG)) csZ) w'):
 ca P Post n Shun 0 (bf ((base f).at a k) ((base i).at aF (.inRegion az (aI::aK)::aG)::csZ)) w:=by
 refine alp s H.fk p o r H.all H.defers hk (q.mono H.sub) (gV:=λc v w1=>gV w1 v/\∃T,Below n0 {c with tape:=T} w1) (λc e T f cs m=>?_) ?_
 .obtain⟨v,w1,fr,⟨l,j⟩,h,y⟩:=hrun {c with tape:=T} HV (hI _ _ _ _ _ (H.fk.lA e T) H.all h0) f cs m;grind
 .rintro ρ c v z u w' e ⟨l,T,j⟩ h g;have d:=H.next e g j (a':=⟨#[],[]⟩) ⟨U,AN⟩ U;exact t u (pA ρ) w' d.fk d.sub (g.val h) d.since d.keep (x _ _ _ _ _ (g.lA H.size) h l)
variable{ops:eQ}{i:Nat}{rest:uag}{o:Oper}
def QZ{d:Nat}{g:ual}{args:uba}{ats:uau}(j:o.op=.call {callee:=.value (.func g),args,argTypes:=ats})(hg:P.funcs[g]?=some bC)(q:(bC.name== "runtime.NumGoroutine")=false)(c:bC.body=some fJ)(hn:n+16*d<=200)(t:jX P f)(H:Held O P aD w0 n0 a M w Shun)(hk:(Item.inRegion ops []::k).all (fM P)=true)(s:ops[i]?=some o)(B:o.guard=none)(z:o.dst=some gq/\gq<a.tmps.size){I J:uak}{ie:uaz}(hI:B6 aD n0 I)(h0:I a w)(r:∀k,eb O P Post g (args.map a.eval) M (w.at k) d (λu _ w'=>ie w' u/\cO M w w'))(A:∀u w',I a w'->ie w' u->J (a.put (some gq) u) w')(C:∀a' M' w' e h,e<=n+16*d->Held O P aD w0 n0 a' M' w' h->J a' w'->ca P Post e h 0 (bf ((base f).at a' (.inRegion ops rest::k)) cs) w'):
 ca P Post n Shun 0 (bf ((base f).at a (.inRegion ops (i::rest)::k)) cs) w:=by
 simp only[vbi,vae]at hk;refine X4 j hg q c U hn H.fk ⟨t,.inl H.all,H.defers,hk.1,hk.2,AN⟩ s (tC B _) r ?_;rintro u M' w' e h y x m v p ⟨D,l⟩;rw[z.1];refine C _ M' w' e h y ⟨x,λb c=>m b (H.sub b c),H.since.trans p,H.keep.trans (λb c=>H.sub b c.1) l,?_,Gm,vac H.size p.size⟩ (A u w' (hI _ _ _ _ _ (l.lA H.fk) (λb c=>⟨U,H.sub b c⟩) QX H.all h0) D);exact(H.all.mono (uH m)).set v _
def X_{d:Nat}{g:ual}{args:uba}{ats:uau}(b:o.op=.call {callee:=.value (.func g),args,argTypes:=ats})(hg:P.funcs[g]?=some bC)(h:(bC.name== "runtime.NumGoroutine")=false)(p:bC.body=some fJ)(hn:n+16*d<=200)(m:jX P f)(H:Held O P aD w0 n0 a M w Shun)(hk:(Item.inRegion ops []::k).all (fM P)=true)(l:ops[i]?=some o)(s:o.guard=none)(q:o.dst=some gq/\gq<a.tmps.size){I J:uak}{ie:uaz}(hI:oM n0 I)(h0:I a w)(j:∀k,eb O P Post g (args.map a.eval) M (w.at k) d (λu _ w'=>ie w' u/\cO M w w'))(r:∀u w',I a w'->ie w' u->J (a.put (some gq) u) w')(t:∀a' M' w' c e,c<=n+16*d->Held O P aD w0 n0 a' M' w' e->J a' w'->ca P Post c e 0 (bf ((base f).at a' (.inRegion ops rest::k)) cs) w'):
 ca P Post n Shun 0 (bf ((base f).at a (.inRegion ops (i::rest)::k)) cs) w:=
 QZ b hg h p hn m H hk l s q hI.p h0 j r t
def Ya(Q:(cJ P).Good)(C:P.follows .mixedOrders=true)(t:jX P f)(hk:(Item.inRegion ops []::k).all (fM P)=true)(g:Nat){j:Oper}{d:Nat}{gf:ual}{args:uba}{ats:uau}(s:ops[g]?=some j)(m:j.op=.call {callee:=.value (.func gf),args,argTypes:=ats})(B:P.funcs[gf]?=some bC)(F:(bC.name== "runtime.NumGoroutine")=false)(q:bC.body=some fJ)(R:j.guard=none)(hn:n+16*d<=200){I:ubl}(hI:∀am,B6 aD n0 (I am))(X:j.dst=some gq)(Z:∀am a w,I am a w->gq<a.tmps.size){ie:uaz}(hsz:∀am a w,I am a w->am.size=ops.size)(H:Held O P aD w0 n0 a M w Shun)(h0:I (Array.replicate ops.size false) a w)(hstep:∀am a W i o,I am a W->a.defers=[]->n0<=W.heap.size->i≠g->am.getD i true=false->ops[i]?=some o->(∀e∈o.after,Region.binds .any e=true->am.getD e.on false=true)->wpOps (aa P true) ops (ly λa1 w1=>a1.defers=[]/\I (am.setIfInBounds i true) a1 w1/\Below n0 W w1) [i] a W)(L:∀am a M w Shun,Held O P aD w0 n0 a M w Shun->I am a w->am.getD g false=false->(∀e∈j.after,Region.binds .any e=true->am.getD e.on false=true)->eb O P Post gf (args.map a.eval) M w d (λu _ w'=>ie w' u/\cO M w w'))(E:∀am a w u,I am a w->am.getD g false=false->(∀e∈j.after,Region.binds .any e=true->am.getD e.on false=true)->ie w u->I (am.setIfInBounds g true) (a.put (some gq) u) w)(V:∀am a M' w' c A,I am a w'->Region.ready .any ops am=[]->c<=n+16*d->Held O P aD w0 n0 a M' w' A->ca P Post c A 0 (bf ((base f).at a (.inRegion ops []::k)) cs) w'){id:Nat}:ca P Post n Shun 0 (bf ((base f).at a (.code (.region id ops true)::k)) cs) w:=by
 have Y:∀am a M w Shun k,Held O P aD w0 n0 a M w Shun->I am a w->I am a (w.at k):=λam a M w Shun k H h=>hI am _ _ _ _ _ ((show cO M w (w.at k)from λ_ _ _ _ _ x=>x).lA H.fk) (λb q=>⟨rfl,H.sub b q⟩) QX H.all h;refine QR C (I:=λam a M w c Shun=>Held O P aD w0 n0 a M w Shun/\I am a w/\c<=n+16*d/\(am.getD g false=false->c<=n)) (λam a M w c Shun k h=>⟨h.1.at k,AN,h.2.2⟩) ?_ AN ⟨H,h0,vdp _ _,λ_=>vad _⟩;intro am a M w c Shun i o rest ⟨H,hi,Bl,U⟩ D p l K;have T:i<am.size:=by grind
 by_cases r:i=g
 .subst r;rw[s]at p;cases p;have v:am.getD i false=false:=by grind
  refine QZ m B F q AN t H hk s R AN (I:=I am) (J:=I (am.setIfInBounds i true)) (ie:=ie) (hI am) hi (λk=>L am a M (w.at k) Shun (H.at k) AN v l) (λu w' z y=>E am a w' u z v l y) ?_;grind[k8]
 .refine L9 Q t H (k:=.inRegion ops (i::rest)::k) (k':=.inRegion ops rest::k) Bo Bo (I:=I am) (J:=I (am.setIfInBounds i true)) (hI am) (hI _) hi (λW N S b cs=>?_) ?_
  .obtain⟨a1,w1,z,y⟩:=L4 rest [i] a W (hstep am a W i o S H.defers N r D p l) b k cs;grind
  grind[k8]
def als(y:(cJ P).Good)(m:P.follows .mixedOrders=true)(t:jX P f)(hk:(Item.inRegion ops []::k).all (fM P)=true)(g:Nat){b:Oper}{d:Nat}{gf:ual}{args:uba}{ats:uau}(p:ops[g]?=some b)(c:b.op=.call {callee:=.value (.func gf),args,argTypes:=ats})(l:P.funcs[gf]?=some bC)(r:(bC.name== "runtime.NumGoroutine")=false)(v:bC.body=some fJ)(A:b.guard=none)(hn:n+16*d<=200){I:ubl}(hI:∀am,oM n0 (I am))(z:b.dst=some gq)(B:∀am a w,I am a w->gq<a.tmps.size){ie:uaz}(hsz:∀am a w,I am a w->am.size=ops.size)(H:Held O P aD w0 n0 a M w Shun)(h0:I (Array.replicate ops.size false) a w)(hstep:∀am a W i o,I am a W->a.defers=[]->n0<=W.heap.size->i≠g->am.getD i true=false->ops[i]?=some o->(∀e∈o.after,Region.binds .any e=true->am.getD e.on false=true)->wpOps (aa P true) ops (ly λa1 w1=>a1.defers=[]/\I (am.setIfInBounds i true) a1 w1/\Below n0 W w1) [i] a W)(s:∀am a M w Shun,Held O P aD w0 n0 a M w Shun->I am a w->am.getD g false=false->(∀e∈b.after,Region.binds .any e=true->am.getD e.on false=true)->eb O P Post gf (args.map a.eval) M w d (λu _ w'=>ie w' u/\cO M w w'))(q:∀am a w u,I am a w->am.getD g false=false->(∀e∈b.after,Region.binds .any e=true->am.getD e.on false=true)->ie w u->I (am.setIfInBounds g true) (a.put (some gq) u) w)(x:∀am a M' w' h j,I am a w'->Region.ready .any ops am=[]->h<=n+16*d->Held O P aD w0 n0 a M' w' j->ca P Post h j 0 (bf ((base f).at a (.inRegion ops []::k)) cs) w'){id:Nat}:ca P Post n Shun 0 (bf ((base f).at a (.code (.region id ops true)::k)) cs) w:=
 Ya y m t hk g p c l r v A hn (λam=>(hI am).p) z B hsz H h0 hstep s q x
end
end
section
open RowKit
section
variable{ρ:Ren}
theorem Q0:∀{l a:uam},l.length=a.length->(∀(i:Nat)(v v':Value),l[i]?=some v->a[i]?=some v'->ap ρ v v')->de (ap ρ) l a
 | [],[],_,_=>.nil
 | [],_::_,hs,_=>AN
 | _::_,[],hs,_=>AN
 | _::_,_::_,hs,h=>.cons (h 0 _ _ U U) (Q0 AN λi v v' c b=>h (i+1) v v' AN AN)
def Yb{l:uam}{b:dC}(hs:l.toArray.size=b.size)(h:∀(i:Nat)(v v':Value),l.toArray[i]?=some v->b[i]?=some v'->ap ρ v v'):∃a,b=a.toArray/\de (ap ρ) l a:=by grind[Q0]
def x8{l:uam}{u:Value}(h:ap ρ (.tuple l.toArray) u):∃a,u=.tuple a.toArray/\de (ap ρ) l a:=by cases h with|tuple hs hg=>obtain⟨a,rfl,k⟩:=Yb hs hg;grind
def pF{l:uam}{u:Value}(h:ap ρ (.agg l.toArray) u):∃a,u=.agg a.toArray/\de (ap ρ) l a:=by cases h with|agg hs hg=>obtain⟨a,rfl,k⟩:=Yb hs hg;grind
theorem d9{k:IntKind}{n:Int}{u:Value}(h:ap ρ (.int k n) u):u=.int k n:=by cases h;rfl
def Q1{b:Bool}{u:Value}(h:ap ρ (.bool b) u):u=.bool b:=by cases h;rfl
theorem gW{l c:Nat}{u:Value}(h:ap ρ (.slice none l c) u):u=.slice none l c:=by cases h;rfl
def qp{b o l c:Nat}{u:Value}(h:ap ρ (.S b o l c) u):∃a,u=.S a o l c/\ρ.rel b a:=by cases h with|@slice _ a' _ _ r=>obtain⟨a,o',s'⟩:=a';obtain⟨f,e,d⟩:=r;grind
def Iv{a:uad}{l c:Nat}{u:Value}(h:ap ρ (.slice a l c) u):∃b,u=.slice b l c:=by cases h with|h7=>grind|slice=>grind
def wH{b o:Nat}{u:Value}(h:ap ρ (.P b o) u):∃a,u=.P a o/\ρ.rel b a:=by cases h with|@ptr _ a' r=>obtain⟨a,o',s'⟩:=a';obtain⟨e,d,c⟩:=r;grind
end
variable{n0:Nat}
def re(x:Value)(_:aH)(v:Value):Prop:=v=x
def alu(k:IntKind)(i:Int):my n0 (re (.int k i)):=λ_ _ _ _ _ _ hv h=>by cases h;exact d9 hv
def alv(b:Bool):my n0 (re (.bool b)):=λ_ _ _ _ _ _ hv h=>by cases h;exact Q1 hv
def alw:my n0 (re undef):=λ_ _ _ _ _ _ hv h=>by cases h;obtain⟨a,rfl,k⟩:=x8 (l:=[]) hv;cases k;rfl
def Yc(a b:Int):my n0 (re (.agg #[.I a,.I b])):=λ_ _ _ _ _ _ hv h=>by
 cases h;obtain⟨e,rfl,k⟩:=pF hv;cases k with
 |cons d k=>cases k with
  |cons c k=>cases k;rw[d9 d,d9 c];rfl
def tG(R:uaz):Prop:=∀w w' v,cC w w'->R w v->R w' v
def tG.eq(x:Value):tG (re x):=λ_ _ _ _ h=>h
theorem Q2(n j:Nat):(Array.replicate n false).getD j false=false:=by simp_all[Array.getD]
def fP{P:ck}{ops:eQ}{Q:uap}{R:uak}{i:Nat}{rest:uag}{a:Act}{w:aH}(h:wpOps P ops (ly R) [i] a w)(k:∀a w,R a w->wpOps P ops Q rest a w):wpOps P ops Q (i::rest) a w:=by
 simp[wpOps]at h⊢;cases m:ops[i]? with
 |none=>simp[m]at h⊢;exact k _ _ h.2
 |some o=>
  simp[m]at h⊢;by_cases l:Region.wanted o (yielded ops a.tmps)=true
  .simp[l]at h⊢;rcases h with h|⟨-,j,b,hq⟩
   .refine .inl ?_;simp[Oper.wp,Oper.upon]at h⊢;generalize(execOp a.eval o).run P w=r at h⊢;cases r with
    |ok x w'=>
     cases x with
     |value v=>exact k _ _ h.2
     |skip=>exact k _ _ h.2
     |defer d=>exact k _ _ h.2
     |enter f args=>refine vct h ?_;intro e w'' g;cases e with|returned v=>exact k _ _ g.2|panicked c=>cases g.1|outgrown=>obtain⟨j,b,hq⟩:=g;cases hq.1
     |row r args=>exact Rows.mono h λ_ _ g=>k _ _ g.2
     | _=>exact h.elim
    |halt x w'=>cases x<;>first|exact h.elim|(cases h.1)
   .cases hq.1
  .simp[l]at h⊢;exact k _ _ h.2
theorem Yd{P:ck}{ops:eQ}{Q:uak}{i:Nat}{o:Oper}{a:Act}{w w1:aH}{v:Value}(d:ops[i]?=some o)(b:Region.wanted o (yielded ops a.tmps)=true){s:Nat}(hd:o.dst=some s)(c:(execOp a.eval o).run P w=.ok (.value v) w1)(h:Q (a.put (some s) v) w1):wpOps P ops (ly Q) [i] a w:=by simp[wpOps,d,b];refine .inl ?_;simp[Oper.wp,Oper.upon,c,hd];exact⟨U,h⟩
def Ye{P:ck}{ops:eQ}{Q:uak}{i:Nat}{o:Oper}{a:Act}{w:aH}(d:ops[i]?=some o)(b:Region.wanted o (yielded ops a.tmps)=true){s:Nat}(hd:o.dst=some s){f:ual}{args:dC}(c:(execOp a.eval o).run P w=.ok (.enter f args) w)(h:Calls P f args w λe w'=>∃v,e=.returned v/\Q (a.put (some s) v) w'):wpOps P ops (ly Q) [i] a w:=by simp[wpOps,d,b];refine .inl ?_;simp[Oper.wp,Oper.upon,c,hd];refine h.mono ?_;rintro e w' ⟨v,rfl,h⟩;exact⟨U,h⟩
def Yf{P:ck}{ops:eQ}{Q:uak}{i:Nat}{o:Oper}{a:Act}{w:aH}(c:ops[i]?=some o)(b:Region.wanted o (yielded ops a.tmps)=false){s:Nat}(hd:o.dst=some s)(h:Q (a.put (some s) undef) w):wpOps P ops (ly Q) [i] a w:=by simp[wpOps,c,b,hd];exact⟨U,h⟩
section
variable{P:ck}{ops:eQ}{Q:uak}{i:Nat}{o:Oper}{a:Act}{w w1:aH}{v:Value}
def ip(c:ops[i]?=some o)(d:o.guard=none){s:Nat}(hd:o.dst=some s)(b:(execOp a.eval o).run P w=.ok (.value v) w1)(h:Q (a.put (some s) v) w1):wpOps P ops (ly Q) [i] a w:=Yd c (tC d _) hd b h
def sr(c:ops[i]?=some o)(d:o.guard=none)(hd:o.dst=none)(b:(execOp a.eval o).run P w=.ok .skip w1)(h:Q a w1):wpOps P ops (ly Q) [i] a w:=by simp[wpOps,c,tC d];refine .inl ?_;simp[Oper.wp,Oper.upon,b,hd];exact⟨U,h⟩
def Yg(c:ops[i]?=some o)(d:o.guard=none){s:Nat}(hd:o.dst=some s){f:ual}{args:dC}(b:(execOp a.eval o).run P w=.ok (.enter f args) w)(h:Calls P f args w λe w'=>∃v,e=.returned v/\Q (a.put (some s) v) w'):wpOps P ops (ly Q) [i] a w:=Ye c (tC d _) hd b h
end
def alx{ops:eQ}{o:Oper}{tmps:dC}{g d:Nat}{b c:Bool}(hg:o.guard=some (g,b))(hd:(ops[g]?).bind (·.dst)=some d)(ht:tmps[d]?=some (.bool c)):Region.wanted o (yielded ops tmps)=(c==b):=by grind[Region.wanted,yielded]
def aly{ops:eQ}{o:Oper}{tmps:dC}{g d:Nat}{b:Bool}(hg:o.guard=some (g,b))(hd:(ops[g]?).bind (·.dst)=some d)(ht:tmps[d]?=some undef):Region.wanted o (yielded ops tmps)=false:=by unfold Region.wanted yielded;simp only[hg,hd,Option.bind_some,ht];cases b<;>rfl
def wI{P:ck}{ops:eQ}{ks ks':uab}{Q:uak}{a:Act}{w:aH}{l:uag}(h:wpOps P ops (ly (cb P (.inRegion ops []::ks) ks' Q)) l a w):cb P (.inRegion ops l::ks) ks' Q a w:=λb cs=>by obtain⟨a1,w1,c,f⟩:=L4 [] l a w h b ks cs;obtain⟨g,w2,e,d⟩:=c b cs;grind[Steps.trans]
def Iw{P:ck}{id n:Nat}{ops:eQ}{ks ks':uab}{Q:uak}{a:Act}{w:aH}(hn:ops.size=n)(h:wpOps P ops (ly (cb P (.inRegion ops []::ks) ks' Q)) (List.range' 0 n) a w):cb P (.code (.region id ops false)::ks) ks' Q a w:=ra (wI (hn▸h))
theorem nX{P:ck}{ops:eQ}{ks ks':uab}{Q:uak}{a:Act}{w:aH}(h:cb P ks ks' Q a w):wpOps P ops (ly (cb P (.inRegion ops []::ks) ks' Q)) [] a w:=⟨U,tA h⟩
theorem cd{a:Act}{t:Nat}{v:Value}(h:a.tmps[t]?=some v):a.eval (.tmp t)=v:=by simp[Act.eval,h]
theorem et{a:Act}{t s:Nat}{v:Value}(h:t≠s):(a.put (some t) v).tmps[s]?=a.tmps[s]?:=by simp[Act.put,h]
def ja{a:Act}{t:Nat}{v:Value}(h:t<a.tmps.size):(a.put (some t) v).tmps[t]?=some v:=by simp[Act.put,h]
end
open RowKit
structure bg where
 R:aH->Value->Prop
 fZ:tG R
 ok:Nat->Prop
 gX:∀n,ok n->my n R
def uK(n:Nat):List (Nat×bg)->Prop
 | []=>True
 |p::l=>p.2.ok n/\uK n l
abbrev bZ:=Nat->Option bg
def up(K:bZ)(s:Nat)(F:bg):bZ:=λi=>if i=s then some F else K i
def be:List (Nat×bg)->bZ
 | [],_=>none
 |p::l,s=>if s=p.1 then some p.2 else be l s
structure af(N:Nat)(K:bZ)(a:Act)(w:aH):Prop where
 size:a.tmps.size=N
 has:∀s F,K s=some F->∃v,a.tmps[s]?=some v/\F.R w v
def Mb(K:bZ):List (Nat×bg)->Prop
 | []=>True
 |p::l=>K p.1=some p.2/\Mb K l
theorem Yh{K:bZ}:∀{l:List (Nat×bg)},Mb K l->∀s F,be l s=some F->K s=some F
 | [],_,_,_,h=>by cases h
 |p::l,hi,s,F,h=>by
  unfold be at h;split at h
  .rename_i e;rw[e,<-h];exact hi.1
  .exact Yh hi.2 s F h
theorem e7{n:Nat}:∀{l:List (Nat×bg)},uK n l->∀s F,be l s=some F->F.ok n
 | [],_,_,_,h=>by cases h
 |p::l,hi,s,F,h=>by
  unfold be at h;split at h
  .cases h;exact hi.1
  .exact e7 hi.2 s F h
section
variable{N:Nat}{K K':bZ}{a:Act}{w w1:aH}
def af.sub(h:af N K a w)(hs:∀s F,K' s=some F->K s=some F):af N K' a w:=⟨h.size,λs F e=>h.has s F (hs s F e)⟩
def af.a7{l:List (Nat×bg)}(h:af N K a w)(hs:Mb K l):af N (be l) a w:=h.sub (Yh hs)
theorem af.fZ(h:af N K a w)(b:cC w w1):af N K a w1:=⟨h.size,λs F e=>by
 obtain⟨v,d,c⟩:=h.has s F e;exact⟨v,d,F.fZ _ _ _ b c⟩⟩
theorem af.put(h:af N K a w){s:Nat}(hs:s<N)(b:cC w w1){F:bg}{v:Value}(hv:F.R w1 v):af N (up K s F) (a.put (some s) v) w1:=by
 refine⟨ED,λi G e=>?_⟩;unfold up at e;split at e
 .rename_i hi;cases e;subst hi;exact⟨v,ja (by rw[h.size];exact hs),hv⟩
 .rename_i hi;obtain⟨x,d,c⟩:=h.has i G e;exact⟨x,(et (Ne.symm hi)).trans d,G.fZ _ _ _ b c⟩
def gY(n:Nat)(hok:∀s F,K s=some F->F.ok n):oM n (af N K):=by intro ρ a a' w w' c b h;refine⟨by rw[<-b.size];exact h.size,λs F e=>?_⟩;obtain⟨v,i,g⟩:=h.has s F e;obtain⟨v',f,d⟩:=b.some i;exact⟨v',f,F.gX _ (hok s F e) _ _ _ _ _ c d g⟩
end
def bq(K:bZ):Operand->bg->Prop
 | .tmp s,F=>K s=some F
 | .const v,F=>∀w,F.R w v
 | _,_=>False
def af.ev{N:Nat}{K:bZ}{a:Act}{w:aH}(h:af N K a w){x:uaq}{F:bg}(b:bq K x F):F.R w (a.eval x):=by
 cases x with
 |tmp s=>obtain⟨v,d,c⟩:=h.has s F b;grind[cd]
 |const v=>exact b w
 | _=>exact b.elim
def Fp(P:ck)(o:Oper)(F:bg)(a:Act)(w:aH):Prop:=
 (∃v w1,(execOp a.eval o).run P w=.ok (.value v) w1/\F.R w1 v/\cC w w1)\/∃f args,(execOp a.eval o).run P w=.ok (.enter f args) w/\Calls P f args w λe w'=>∃v,e=.returned v/\F.R w' v/\cC w w'
def bK(P:ck)(N:Nat)(K:bZ)(o:Oper)(F:bg):Prop:=∀a w,af N K a w->Fp P o F a w
def Ix{P:ck}{ops:eQ}{i s:Nat}{o:Oper}{F:bg}{a:Act}{w:aH}(e:ops[i]?=some o)(d:Region.wanted o (yielded ops a.tmps)=true)(hd:o.dst=some s)(h:Fp P o F a w):wpOps P ops (ly λa1 w1=>(∃v,a1=a.put (some s) v/\F.R w1 v)/\cC w w1) [i] a w:=by
 rcases h with⟨v,w1,c,b,g⟩|⟨f,args,c,b⟩
 .grind[Yd]
 .refine Ye e d hd c (b.mono ?_);grind
def a3(n:Int):bg:=⟨re (.I n),tG.eq _,λ_=>True,λ_ _=>alu _ _⟩
def gB(b:Bool):bg:=⟨re (.bool b),tG.eq _,λ_=>True,λ_ _=>alv _⟩
def mX:bg:=⟨re undef,tG.eq _,λ_=>True,λ_ _=>alw⟩
def fl(v:Value):bg:=⟨re v,tG.eq _,λ_=>False,λ_ h=>h.elim⟩
def uL(ops:eQ)(K:bZ)(o:Oper)(c:Bool):Prop:=
 match o.guard with
 |none=>c=true
 |some (g,b)=>∃d,(ops[g]?).bind (·.dst)=some d/\((∃x,K d=some (gB x)/\c=(x==b))\/K d=some mX/\c=false)
def uL.is{ops:eQ}{K:bZ}{o:Oper}{c:Bool}{N:Nat}{a:Act}{w:aH}(h:uL ops K o c)(hk:af N K a w):Region.wanted o (yielded ops a.tmps)=c:=by
 unfold uL at h;split at h
 .grind[tC]
 .rename_i g b e;obtain⟨d,k,⟨x,j,rfl⟩|⟨j,rfl⟩⟩:=h
  .obtain⟨v,i,f⟩:=hk.has d _ j;cases f;exact alx e k i
  .obtain⟨v,i,f⟩:=hk.has d _ j;cases f;exact aly e k i
def Q3(P:ck)(N:Nat)(ops:eQ)(K:bZ)(o:Oper)(F:bg):Prop:=(uL ops K o true/\bK P N K o F)\/(uL ops K o false/\F=mX)
theorem Q3.step{P:ck}{N:Nat}{ops:eQ}{K:bZ}{o:Oper}{F:bg}(h:Q3 P N ops K o F){a:Act}{w:aH}{i s:Nat}(hk:af N K a w)(c:ops[i]?=some o)(hd:o.dst=some s):wpOps P ops (ly λa1 w1=>(∃v,a1=a.put (some s) v/\F.R w1 v)/\cC w w1) [i] a w:=by
 rcases h with⟨b,d⟩|⟨b,rfl⟩
 .exact Ix c (b.is hk) hd (d a w hk)
 .exact Yf c (b.is hk) hd ⟨⟨undef,U,U⟩,vaa _ _⟩
def uM(P:ck)(N:Nat)(ops:eQ):List Oper->bZ->bZ->Prop
 | [],K,K'=>K=K'
 |o::l,K,K'=>∃d,o.dst=some d/\d<N/\∃F,Q3 P N ops K o F/\uM P N ops l (up K d F) K'
def aC{P:ck}{N:Nat}{ops:eQ}{o:Oper}{l:ubf}{K K':bZ}{d:Nat}{F:bg}(hd:o.dst=some d)(a:bK P N K o F)(h:uM P N ops l (up K d F) K')(hg:o.guard=none:=by rfl)(a5:d<N:=by decide):uM P N ops (o::l) K K':=⟨d,hd,a5,F,.inl ⟨by grind[uL],a⟩,h⟩
def gC{P:ck}{N:Nat}{ops:eQ}{o:Oper}{l:ubf}{K K':bZ}{d g t:Nat}{b:Bool}{F:bg}(hd:o.dst=some d)(a:bK P N K o F)(h:uM P N ops l (up K d F) K')(a5:d<N:=by decide)(hg:o.guard=some (g,b):=by rfl)(ht:(ops[g]?).bind (·.dst)=some t:=by rfl)(hk:K t=some (gB b):=by rfl):uM P N ops (o::l) K K':=⟨d,hd,a5,F,.inl ⟨by grind[uL],a⟩,h⟩
def Yi{P:ck}{N:Nat}{ops:eQ}{o:Oper}{l:ubf}{K K':bZ}{d g t:Nat}{b c:Bool}(hd:o.dst=some d)(h:uM P N ops l (up K d mX) K')(a5:d<N:=by decide)(hg:o.guard=some (g,b):=by rfl)(ht:(ops[g]?).bind (·.dst)=some t:=by rfl)(hk:K t=some (gB c):=by rfl)(a:(c==b)=false:=by rfl):uM P N ops (o::l) K K':=⟨d,hd,a5,mX,.inr ⟨by grind[uL],U⟩,h⟩
theorem Mc{P:ck}{N:Nat}{ops:eQ}{Q:uap}{rest:uag}:∀{l:ubf}{i:Nat}{K K':bZ}{a:Act}{w:aH},uM P N ops l K K'->(∀j o,l[j]?=some o->ops[i+j]?=some o)->af N K a w->(∀a' w',af N K' a' w'->a'.defers=a.defers->cC w w'->wpOps P ops Q rest a' w')->wpOps P ops Q (List.range' i l.length++rest) a w
 | [],i,K,K',a,w,h,_,hk,k=>by cases h;grind[Below.refl]
 |o::l,i,K,K',a,w,⟨d,hd,a5,F,c,h⟩,hi,hk,k=>by rw[List.length_cons,List.range'_succ,List.cons_append];refine fP (c.step hk (hi 0 o U) hd) ?_;rintro a1 w1 ⟨⟨v,rfl,hv⟩,b⟩;refine Mc h (λj o' m=>by have:=hi (j+1) o' AN;grind) (hk.put a5 b hv) λa' w' g f e=>k a' w' g (f.trans (put_defers _ _ _)) (b.trans (e.mono b.size))
def f5{P:ck}{N id:Nat}{ops:eQ}{ks ks':uab}{Q:uak}{K K':bZ}{a:Act}{w:aH}(hk:af N K a w)(h:uM P N ops ops.toList K K')(k:∀a' w',af N K' a' w'->a'.defers=a.defers->cC w w'->cb P ks ks' Q a' w'):cb P (.code (.region id ops false)::ks) ks' Q a w:=by refine Iw (n:=ops.toList.length) Ab ?_;rw[<-List.append_nil (List.range' 0 ops.toList.length)];grind[Mc,nX]
def Fq(K:bZ)(ops:eQ)(acc:bZ)(o:Oper):bZ:=λs=>
 match o.after.toList.find? (λe=>Region.binds .any e&&((ops[e.on]?).bind (·.dst)==some s))with
 |some e=>acc e.on
 |none=>K s
def B7(tx:Nat->Oper->Option Nat)(bp:ubg)(X:Nat->bZ->Oper->bg->Prop)(N:Nat):List Oper->Nat->bZ->bZ->bZ->Prop
 | [],_,_,iA,K'=>iA=K'
 |o::l,j,acc,iA,K'=>∃d,tx j o=some d/\d<N/\∃F,X j acc o F/\B7 tx bp X N l (j+1) (up acc j F) (if bp j then up iA d F else iA) K'
section
variable{P:ck}{N:Nat}{ops:eQ}{K:bZ}{o:Oper}{l:ubf}{j:Nat}{acc iA K':bZ}{d:Nat}{F:bg}
theorem B7.all{b:Nat->Oper->Option Nat}{g:ubg}{X:Nat->bZ->Oper->bg->Prop}:∀{l:ubf}{j:Nat}{acc iA:bZ},B7 b g X N l j acc iA K'->∃c2:Nat->bg,(∀i o,l[i]?=some o->∃d,b (j+i) o=some d/\d<N/\X (j+i) (λs=>if j<=s/\s<j+i then some (c2 s)else acc s) o (c2 (j+i)))/\∀s F,K' s=some F->(∃i o,l[i]?=some o/\b (j+i) o=some s/\F=c2 (j+i)/\g (j+i)=true)\/iA s=some F
 | [],j,acc,iA,h=>by cases h;exact⟨λ_=>mX,λi o hi=>AN,λs F h=>.inr h⟩
 |o::l,j,acc,iA,⟨d,hd,a5,F,u,h⟩=>by
  obtain⟨c2,r,q⟩:=B7.all h;refine⟨λs=>if s=j then F else c2 s,λi o' hi=>?_,λs G p=>?_⟩
  .cases i with
   |zero=>simp at hi;subst hi;refine⟨d,hd,a5,?_⟩;have e:(λs=>if j<=s/\s<j+0 then some (if s=j then F else c2 s)else acc s)=acc:=vee λs=>vcy AY;grind
   |succ i=>
    have a:j+1+i=j+(i+1):=AY;obtain⟨t,f,c,n⟩:=r i o' AN;refine⟨t,a▸f,c,?_⟩;have e:(λs=>if j<=s/\s<j+(i+1)then some (if s=j then F else c2 s)else acc s)=(λs=>if j+1<=s/\s<j+1+i then some (c2 s)else up acc j F s):=vee λs=>by grind[up]
    grind
  .rcases q s G p with⟨i,o',f,c,n,m⟩|k
   .have a:j+1+i=j+(i+1):=by omega
    exact .inl ⟨i+1,o',AN,a▸c,AN,a▸m⟩
   .split at k
    .unfold up at k;split at k
     .rename_i hk e;cases k;exact .inl ⟨0,o,U,AN,Ab,hk⟩
     grind
    .exact .inr k
end
def Yj(n i:Nat):Array Bool:=((List.range n).map λj=>decide (j<i)).toArray
structure Fs(N:Nat)(ops:eQ)(K:bZ)(c2:Nat->bg)(am:uaw)(a:Act)(w:aH):Prop where
 len:am.size=ops.size
 base:af N K a w
 val:∀(j:Nat) o d,ops[j]?=some o->o.dst=some d->am.getD j false=true->∃v,a.tmps[d]?=some v/\(c2 j).R w v
structure Q4(N m:Nat)(ops:eQ)(K:bZ)(c2:Nat->bg)(D:List Deferred)(Iy:aH)(am:uaw)(a:Act)(w:aH):Prop extends Fs N ops K c2 am a w where
 defers:a.defers=D
 Yk:cC Iy w
 most:∀j,am.getD j false=true->j<m
 down:∀(j:Nat) o,ops[j]?=some o->am.getD j false=true->∀e∈o.after,Region.binds .any e=true->am.getD e.on false=true
def Fs.env{N:Nat}{ops:eQ}{K:bZ}{c2:Nat->bg}{am:uaw}{a:Act}{w:aH}(h:Fs N ops K c2 am a w){o:Oper}{acc:bZ}(g:∀s F,acc s=some F->F=c2 s)(f:∀e∈o.after,Region.binds .any e=true->am.getD e.on false=true):af N (Fq K ops acc o) a w:=by
 refine⟨h.base.size,λs F e=>?_⟩;unfold Fq at e;split at e
 .rename_i x c;have b:=List.find?_some c;have i:=List.mem_of_find?_eq_some c;simp at b;have hF:=g _ _ e;subst hF;cases d:ops[x.on]? with|none=>grind|some o'=>simp[d]at b;exact h.val _ o' s d b.2 (f x AN b.1)
 .exact h.base.has s F e
theorem Fs.put{N:Nat}{ops:eQ}{K:bZ}{c2:Nat->bg}{am:uaw}{a:Act}{w w1:aH}(h:Fs N ops K c2 am a w){j:Nat}{o:Oper}{d:Nat}(q:ops[j]?=some o)(hd:o.dst=some d)(a5:d<N)(hK:K d=none)(n:∀i o',ops[i]?=some o'->o'.dst=some d->am.getD i false=true->i=j)(l:cC w w1){v:Value}(hv:(c2 j).R w1 v):Fs N ops K c2 (am.setIfInBounds j true) (a.put (some d) v) w1:=by
 have r:j<am.size:=Ff;refine⟨DD,⟨by rw[iz];exact h.base.size,λs F e=>?_⟩,λi o' m f c p=>?_⟩
 .obtain⟨x,k,g⟩:=h.base.has s F e;have b:d≠s:=λx=>AN;exact⟨x,(et b).trans k,F.fZ _ _ _ l g⟩
 .by_cases e:i=j
  .subst e;rw[q]at f;cases f;rw[hd]at c;cases c;exact⟨v,ja (by rw[h.base.size];exact a5),hv⟩
  .have hi:=((k8 r).1 p).resolve_left e;obtain⟨x,k,g⟩:=h.val i o' m f c hi;have b:d≠m:=λx=>by subst x;exact e (n i o' f c hi)
   exact⟨x,(et b).trans k,(c2 i).fZ _ _ _ l g⟩
def wJ(ops:eQ)(j i:Nat):Bool:=match ops[j]? with|some o=>o.after.any λe=>Region.binds .any e&&e.on==i|none=>false
def rf(K:bZ)(l:ubf):Bool:=l.all λo=>match o.dst with|some d=>(K d).isNone|none=>true
def Yl(ops:eQ)(m:Nat):Bool:=
 decide (m<=ops.size)&&
 ((List.range m).all λi=>(List.range m).all λj=>i==j||(ops[i]?).bind (·.dst) != (ops[j]?).bind (·.dst))&&
 ((List.range m).all λi=>m==ops.size||(List.range (m+1)).any λj=>decide (i<j)&&wJ ops j i)&&
 ((List.range ops.size).all λj=>decide (j<=m)||(List.range ops.size).any λe=>decide (m<=e)&&wJ ops j e)&&
 ((List.range ops.size).all λj=>match ops[j]? with|some o=>o.after.all λe=> !Region.binds .any e||decide (e.on<j)|none=>true)&&
 ((List.range (ops.size+1)).all λj=>decide (j<m)||Region.ready .any ops (Yj ops.size j)==if j<ops.size then [j]else [])
section
variable{ops:eQ}{m:Nat}
structure Shape(ops:eQ)(m:Nat):Prop where
 le:m<=ops.size
 one:∀(i j:Nat) o o' d,i<m->j<m->ops[i]?=some o->ops[j]?=some o'->o.dst=some d->o'.dst=some d->i=j
 aAD:m<ops.size->∀i,i<m->∃j,i<j/\j<=m/\wJ ops j i=true
 far:∀j,j<ops.size->m<j->∃e,m<=e/\wJ ops j e=true
 oN:(List.range ops.size).all (λj=>match ops[j]? with|some o=>o.after.all λe=> !Region.binds .any e||decide (e.on<j)|none=>true)=true
 next:∀j,m<=j->j<=ops.size->Region.ready .any ops (Yj ops.size j)=if j<ops.size then [j]else []
theorem Shape.of(h:Yl ops m=true):Shape ops m:=by
 unfold Yl at h;simp only[vae,List.all_eq_true,List.mem_range,Bool.or_eq_true,decide_eq_true_eq,beq_iff_eq,bne_iff_ne,List.any_eq_true]at h;obtain⟨⟨⟨⟨⟨c,k⟩,g⟩,f⟩,q⟩,p⟩:=h;refine⟨c,λi j o o' d hi b e n hd l=>?_,λa i hi=>?_,λj b a=>?_,?_,λj a b=>?_⟩
 .grind
 .grind
 .grind
 .grind
 grind
def Q6{j i:Nat}(h:wJ ops j i=true):∃o,ops[j]?=some o/\∃e∈o.after,Region.binds .any e=true/\e.on=i:=by grind[wJ]
variable{P:ck}{N:Nat}{K K':bZ}{c2:Nat->bg}{D:List Deferred}{Iy:aH}{am:uaw}{a:Act}{w w1:aH}{Q:uap}
theorem Q4.put(h:Q4 N m ops K c2 D Iy am a w)(hK:rf K (ops.toList.take m)=true)(p:Shape ops m){j:Nat}{o:Oper}{d:Nat}(g:j<m)(k:ops[j]?=some o)(hd:o.dst=some d)(a5:d<N)(t:∀e∈o.after,Region.binds .any e=true->am.getD e.on false=true)(l:cC w w1){v:Value}(hv:(c2 j).R w1 v):Q4 N m ops K c2 D Iy (am.setIfInBounds j true) (a.put (some d) v) w1:=by
 have c:j<am.size:=Ff;refine⟨h.toFs.put k hd a5 (by cases s:K d with|none=>rfl|some F=>grind[rf,List.mem_take_iff_getElem]) (λi o' f q b=>p.one i j o' o _ (h.most i b) g f k q hd) l hv,GQ,h.Yk.trans (l.mono h.Yk.size),λi hi=>?_,λi o' f b e n r=>?_⟩
 .rcases(k8 c).1 hi with rfl|hi
  .grind
  .exact h.most i hi
 .refine(k8 c).2 (.inr ?_);rcases(k8 c).1 b with rfl|hi
  .grind
  .exact h.down i o' f hi e n r
end
end bj
namespace lE
open Conc ConcM av bn ae fY eW gH cW
abbrev en:eV where
 Lo:=Unit
 aM:=Unit
 a4:=λ_=>0
 pl:=λ_ ls=>ls.length=1
 dH:=λ_ _ _=>True
 K:=λ_=>False
 g7:=λ_=>False
 s6:=λ_ _=>True
 tok:=λ_=>false
 deaf:=λ_=>0
 past:=λ_=>false
 Left:=λ_=>False
 zero:=λ_=>False
 nP:=λ_ _=>False
 g6:=λ_=>False
 eU:=λ_=>False
 mu:=⟨0,0,none⟩
 wg:=⟨0,0,none⟩
 ox:=λ_ _ _=>False
def tL:en.Good where
 refl:=AN
 trans:=AN
 less:=AN
 mt:=AN
 mO:=AN
 one:=AN
 nM:=λ_ ls h=>⟨0,(),by
  grind,λh=>h,λh=>h⟩
 zero:=AN
 EO:=AN
 Bq:=AN
 s4:=AN
section
variable{P:ck}{Shun:uan}{Stop:uax}{d:Nat}
theorem YM{mine:c5}{B:Nat}:∀(es:ubm)(d:Nat),nQ en () mine d es->(∀e∈es,¬uo en e)->(∀b,mine b->∀l,eT l=some b->¬Shun l)->(∀b,mine b->b<B)->(∀e∈es,oz Shun B e)/\∀k,deafBehind k es.toArray=k
 | [],_,_,_,_,_=>⟨Ab,λ_=>U⟩
 |e::es,d,h,i,hs,j=>by
  obtain⟨o,n⟩:=YM es _ h.2 AN hs j;have c:=h.1;have g:=i e Ab;have hk:xv (λ_=>False) mine e:=by
   unfold s7 at c;unfold xv;cases f:e.loc with
   |cell a=>grind
   |obj r=>grind
   |output=>trivial
   |goroutines=>grind
   |mark m=>
    rw[f]at c;rcases c with c|⟨c,_⟩
    .cases m with|noRoom=>trivial|extern _=>trivial|disable=>exact absurd (.inl f) g|enable=>exact absurd (.inr (.inl f)) g| _=>exact c.elim
    grind
  refine⟨λu q=>?_,λk=>?_⟩
  .grind[WP]
  .have t:deafBehind k (e::es).toArray=deafBehind (deafBehind k #[e]) es.toArray:=by simp[deafBehind]
   have s:deafBehind k #[e]=k:=by
    obtain⟨loc,wr,p⟩:=e;cases loc with
    |mark m=>cases m<;>first|exact hk.elim|rfl
    | _=>rfl
   grind
def al9{ST:Bool->en.Lo->aV->Prop}{m:Bool}{l:en.Lo}{γ:en.aM}{X:aV}(h:bd en P ST m l γ X):m=true->(∀b,X.mine b->b<X.w.heap.size)->(∀b,X.mine b\/X.w.heap.size<=b->∀l,eT l=some b->¬Shun l)->
 (∀Y,ST true () Y->cW.Left X Y->er P Shun Stop d Y.g Y.w)->er P Shun Stop d X.g X.w:=by
 induction h with
 |@stop m l γ X h=>rintro rfl _ _ k;exact k X h ⟨λ_ h=>h,λ_ _ _=>U,AN,vad _,.refl _,U,U,id⟩
 |@step m l γ X hs ch ok hq o v w s C A z=>
  rintro rfl x y k;refine er.mk hs λn=>?_;have hrel:dI en l γ X (X.w.at n):=⟨⟨λ_ _=>U,vad _,.refl _⟩,PA,⟨[l],0,U,U⟩,.refl _,U,U⟩;rcases ok (X.w.at n) γ trivial hrel with⟨g1,w1,es,e,q⟩|⟨g1,w1,es,e,q,_⟩|⟨_,_,q,_⟩|⟨_,g1,c,w1,es,e,q⟩
  .have hsz:X.w.heap.size<=w1.heap.size:=q.keep.size;have r:∀b,grown X.mine (X.w.at n) w1 b->X.mine b\/(X.w.heap.size<=b/\b<w1.heap.size):=λb h=>h;have t:∀b,grown X.mine (X.w.at n) w1 b->∀l,eT l=some b->¬Shun l:=AN;have g:∀b,grown X.mine (X.w.at n) w1 b->b<w1.heap.size:=AN;obtain⟨i,f⟩:=YM (Shun:=Shun) (B:=w1.heap.size) es.toList 0 q.evs (λe o u=>q.low (.inl AN)) t g;refine⟨g1,w1,es,e,AN,hsz,?_⟩;have p:deafBehind d es=d:=f d;rw[p];refine s (X.w.at n) γ g1 w1 es trivial hrel e q.run q.low U g AN (λY j a=>k Y j ?_);refine⟨λb h=>a.sub b (.inl h),λb i f=>(a.kept b AN λh=>?_).trans (q.keep.kept b i f I3),λb h=>?_,vac hsz a.size,(show OsLater X.w.os w1.os from q.keep.os).trans a.os,a.output.trans q.keep.output,a.tape.trans q.keep.tape,λ_=>a.run q.run⟩
   .grind
   .rcases a.new b h with h|h
    .rcases r b h with h|h
     .grind
     .exact .inr ⟨h.1,van h.2 a.size⟩
    grind
  .exact absurd q.zP.1 AN
  .grind
  .exact absurd q.a4 AN
end
end lE
namespace lE
open Conc ConcM av bn ae fY eW gH
section
section
variable{Z:eV}{Q:ck}{Stop:Bool->Z.Lo->aV->Prop}{m:Bool}{b:Frame}{ops:eQ}{l:Z.Lo}{M:c5}{w0:aH}{bs:uat}
def iC(Z:eV)(l:Z.Lo)(M:c5)(w0:aH)(bs:uat):cz Z:=⟨l,b8 M bs,λw _=>af Z M w0 bs w⟩
def Mr:r6 (iC Z l M w0 bs):=λ_ _ _ _ _ h _ a=>af.on h (dI.rw a)
def Cd(x:ubr)(M:c5)(w0:aH)(bs:uat):Prop:=x∈bs\/(M x.1/\w0.heap[x.1]?=some x.2)
theorem Cd.at{x:ubr}(h:Cd x M w0 bs){w:aH}(hk:af Z M w0 bs w):b8 M bs x.1/\w.heap[x.1]?=some x.2:=by
 rcases h with h|⟨a,b⟩
 .exact⟨.inr AN,hk.bI x h⟩
 .exact⟨.inl a,(hk.rw.heap x.1 (.inr a)).trans b⟩
def Cd.cons{x y:ubr}(h:Cd x M w0 bs):Cd x M w0 (y::bs):=h.imp AN id
def Ms(Z:eV)(l:Z.Lo)(xs:uat)(σ:cz Z):Prop:=∃M w0 bs,(∀x∈xs,Cd x M w0 bs)/\σ=iC Z l M w0 bs
def Mt{xs:uat}:∀σ,Ms Z l xs σ->r6 σ:=by rintro _ ⟨M,w0,bs,_,rfl⟩;exact Mr
def al_{xs:uat}:∀σ,Ms Z l xs σ->∀w γ,σ.S w γ->σ.S {w with drawn:=w.drawn+1} γ:=by rintro _ ⟨M,w0,bs,_,rfl⟩ w γ h;exact⟨h.rw.trans ⟨λ_ _=>U,vad _,.refl _,U,U⟩,h.bI,h.lt,h.eK,h.r7,h.gF,h.r8⟩
def YO(p:Z.past l=false){xs:uat}{z:ubr}(k:z∈xs){o:Oper}{v:Value}{a:Act}(c:Region.wanted o (yielded ops a.tmps)=true)(h:∀w,w.heap[z.1]?=some z.2->(execOp a.eval o).run Q w=.ok (.value v) w/\∀e∈listed Q b.fn a o w,∃off,e=⟨.cell ⟨z.1,off,none⟩,false,false⟩):nk Q b ops (Ms Z l xs) o v a:=by
 refine .inl ⟨c,?_⟩;rintro _ ⟨M,w0,bs,m,rfl⟩ w γ w' x g r q n;have j:=Mr (Z:=Z) (l:=l) w γ w' x g r q n;obtain⟨u,s⟩:=(m z k).at j;obtain⟨t,i⟩:=h w' s;refine⟨t,zS _ _ λe f d=>?_,?_⟩
 .obtain⟨off,rfl⟩:=i e AN;exact .inl ⟨U,.inr (.inl u),p⟩
 .rintro⟨e,f,c⟩;obtain⟨off,rfl⟩:=i e f;rcases c with c|c|⟨_,c⟩|⟨_,c⟩|⟨c,_⟩<;>cases c
def Rv(d:∀b,Z.K b->¬Z.g7 b){o:Oper}{ob:Obj}{a:Act}{K:cz Z->Act->Prop}(h:∀w,(execOp a.eval o).run Q w=.ok (.value (.P w.heap.size 0)) (w.alloc ob)/\listed Q b.fn a o w=#[])(k:∀n,K (iC Z l M w0 ((n,ob)::bs)) (a.put o.dst (.P n 0))):BJ Q b o (iC Z l M w0 bs) a K:=by
 intro w γ w' q g j i f;have e:af Z M w0 bs w':=Mr (Z:=Z) (l:=l) w γ w' q g j i f;obtain⟨p,m⟩:=h w';refine⟨_,_,iC Z l M w0 ((w'.heap.size,ob)::bs),.inl p,⟨?_,?_,.inl ⟨U,e.alloc d ob,λb c _=>BL c,?_,?_⟩⟩,k _⟩
 .show b8 M ((w'.heap.size,ob)::bs)=grown (b8 M bs) w' (w'.alloc ob);rw[P6];exact b8.cons.symm
 .exact⟨λb c _ _=>BL c,BB,.refl _,U,U⟩
 .rw[m];exact trivial
 grind
def Rw(s:Z.past l=false){pre post:uat}{b0:Nat}{bc new:dC}{t:uaa}{o:Oper}{a:Act}{K:cz Z->Act->Prop}(h:∀w,w.heap[b0]?=some (.cells bc t)->(execOp a.eval o).run Q w=.ok .skip (w.setRow b0 new)/\∀e∈listed Q b.fn a o w,∃off,e.loc=.cell ⟨b0,off,none⟩/\e.sync=false)(k:K (iC Z l M w0 (pre++(b0,.cells new t)::post)) (a.put o.dst undef)):BJ Q b o (iC Z l M w0 (pre++(b0,.cells bc t)::post)) a K:=by
 intro w γ w' x g v u r;have f:af Z M w0 (pre++(b0,.cells bc t)::post) w':=Mr (Z:=Z) (l:=l) w γ w' x g v u r;have i:b8 M (pre++(b0,Obj.cells bc t)::post) b0:=.inr Ab;have A:b8 M (pre++(b0,Obj.cells new t)::post)=b8 M (pre++(b0,Obj.cells bc t)::post):=by grind[b8]
 obtain⟨y,p⟩:=h w' (f.bI (b0,.cells bc t) Ab);have hg:grown (b8 M (pre++(b0,Obj.cells bc t)::post)) w' (w'.setRow b0 new)=b8 M (pre++(b0,Obj.cells bc t)::post):=j9 (setRow_size _ _ _);refine⟨_,_,iC Z l M w0 (pre++(b0,.cells new t)::post),AN,⟨?_,?_,.inl ⟨U,f.row,λb z j=>z3 _ _ ?_,?_,?_⟩⟩,k⟩
 .show b8 M (pre++(b0,.cells new t)::post)=grown (b8 M (pre++(b0,Obj.cells bc t)::post)) w' (w'.setRow b0 new);grind
 .exact⟨λk _ hk _=>z3 _ _ λe=>hk (e▸i),Nat.le_of_eq (setRow_size _ _ _).symm,.refl _,U,U⟩
 .rintro rfl;exact f.eK b (.inr i) j
 .refine zS _ _ λe n d=>?_;obtain⟨off,m,q⟩:=p e AN;unfold s7;rw[m];refine .inl ⟨q,.inr (.inl ?_),s⟩;show grown (b8 M (pre++(b0,Obj.cells bc t)::post)) w' (w'.setRow b0 new) b0;simp_all
 .rintro⟨e,n,c⟩;obtain⟨off,m,q⟩:=p e n;rcases c with c|c|⟨_,c⟩|⟨_,c⟩|⟨_,k,hk,j⟩
  .grind
  .grind
  .grind
  .grind
  .rw[m]at hk;cases hk;exact f.eK b0 (.inr i) j
end
end
end lE
namespace bj
def ati{a:Act}(h:a.tmps.size=40)(hd:a.defers=[]):∃w N M L K J H F C D B A m7 z m8 qP k j i g m9 I y E x f e d c b v u t s r q p o n m,a=⟨#[w,N,M,L,K,J,H,F,C,D,B,A,m7,z,m8,qP,k,j,i,g,m9,I,y,E,x,f,e,d,c,b,v,u,t,s,r,q,p,o,n,m],[]⟩:=by
 obtain⟨⟨l⟩,ds⟩:=a;cases hd;iterate 40
  rcases l with _ |⟨_,l⟩
  .simp at h
 rcases l with _ |⟨_,l⟩
 .iterate 40 apply Exists.intro
  rfl
 .simp at h
end bj
namespace bB
open RowKit Shelf av cv
variable{P:ck}{ops:eQ}{Q:uap}{a:Act}{w:aH}
def vX{C:aH->Prop}{n:Nat}{i j:Nat}{b oj:Oper}{fuel:Nat}{listed:uaw}(d:Region.ready .any ops listed=[i,j])(hi:ops[i]?=some b)(e:ops[j]?=some oj)(h:∀K':Act->aH->Prop,(∀a w,C w->t8 C n P ops Q fuel (listed.setIfInBounds i true) a w->K' a w)->if Region.wanted b (yielded ops a.tmps)=true then Oper.wpIn Fence.wide n P b a w K' Q else(∀f,b.about P w a.eval=some f->Fence.wide.fn f)/\K' (a.put b.dst undef) w)(k:∀K':Act->aH->Prop,(∀a w,C w->t8 C n P ops Q fuel (listed.setIfInBounds j true) a w->K' a w)->if Region.wanted oj (yielded ops a.tmps)=true then Oper.wpIn Fence.wide n P oj a w K' Q else(∀f,oj.about P w a.eval=some f->Fence.wide.fn f)/\K' (a.put oj.dst undef) w):t8 C n P ops Q (fuel+1) listed a w:=
 ⟨AN,by
  rw[d];intro x c;simp at c;rcases c with rfl|rfl
  .exact wpOpIn_step hi λK' hK=>h K' AN
  .exact wpOpIn_step e λK' hK=>k K' AN⟩
variable{bY:Nat}{o:Oper}{K:uak}
def vU{w1:aH}{F:Prop}(f:o.guard=none)(b:∀c,o.op≠ .defer c)(e:o.about P w a.eval=none)(d:(execOp a.eval o).run P w=.ok .skip w1)(h:K (a.put o.dst undef) w1):
 if Region.wanted o (yielded ops a.tmps)=true then Oper.wpIn Fence.wide bY P o a w K Q else F:=by
 simp_all[Region.wanted,Oper.wpIn,Oper.semAt_eq,Oper.uponIn]
abbrev dB(t:cV):Array Value:=#[.I t.held,.I (t.sum / 18446744073709551616),.int .u64 (t.sum % 18446744073709551616),.bool t.least.dN,.I t.least.num,.I t.least.cY,.string t.least.text,.bool t.greatest.dN,.I t.greatest.num,.I t.greatest.cY,.string t.greatest.text]
def xc(cs:dC)(off:Nat)(t:cV):Array Value:=((((((((((cs.setIfInBounds off (.I t.held)).setIfInBounds (off+1) (.I (t.sum / 18446744073709551616))).setIfInBounds (off+2) (.int .u64 (t.sum % 18446744073709551616))).setIfInBounds (off+3) (.bool t.least.dN)).setIfInBounds (off+4) (.I t.least.num)).setIfInBounds (off+5) (.I t.least.cY)).setIfInBounds (off+6) (.string t.least.text)).setIfInBounds (off+7) (.bool t.greatest.dN)).setIfInBounds (off+8) (.I t.greatest.num)).setIfInBounds (off+9) (.I t.greatest.cY)).setIfInBounds (off+10) (.string t.greatest.text)
variable{b:Nat}{cs:dC}{T:uaa}
def vS{fr:ubo}(h:w.heap[b]?=some (.cells cs T fr))(o:Nat)(v:Value):(w.setCell ⟨b,o,none⟩ v).heap[b]?=some (.cells (cs.setIfInBounds o v) T fr):=by grind[World.setCell]
variable{off:Nat}{y:uaq}
def NT(u:Bool){x:uaq}(c:o.op=.store 193 x y){ev:uaj}(I:ev x=.P b off){t:cV}(H:ev y=og t){fr:ubo}(h:w.heap[b]?=some (.cells cs T fr))(J:∀o,w.frozen? ⟨b,o,none⟩=false)(hs:off+11<=cs.size):∃w',(execOp ev o).run (aa prog u) w=.ok .skip w'/\w'.heap[b]?=some (.cells (xc cs off t) T fr)/\(∀k,k≠b->w'.heap[k]?=w.heap[k]?)/\∀B,B<=b->Below B w w':=by
 cases o;simp only at c;subst c;have e:∀j,j<cs.size->w.cell? (.a b j)=cs[j]?:=λj g=>by simp[World.cell?,h]
 have f:b<w.heap.size:=jk h;have d:=vS (vS (vS (vS (vS (vS (vS (vS (vS (vS (vS h off (.I t.held)) (off+1) (.I (t.sum / 18446744073709551616))) (off+2) (.int .u64 (t.sum % 18446744073709551616))) (off+3) (.bool t.least.dN)) (off+4) (.I t.least.num)) (off+5) (.I t.least.cY)) (off+6) (.string t.least.text)) (off+7) (.bool t.greatest.dN)) (off+8) (.I t.greatest.num)) (off+9) (.I t.greatest.cY)) (off+10) (.string t.greatest.text);have a:∀j,j<11->∃v,w.cell? (.a b (off+j))=some v:=λj g=>⟨_,(e _ AY).trans (vak AY)⟩;obtain⟨D,cw⟩:=a 0 AY;obtain⟨C,c1⟩:=a 1 AY;obtain⟨A,cg⟩:=a 2 AY;obtain⟨z,du⟩:=a 3 AY;obtain⟨s,M⟩:=a 4 AY;obtain⟨r,F⟩:=a 5 AY;obtain⟨q,E⟩:=a 6 AY;obtain⟨p,l⟩:=a 7 AY;obtain⟨n,O⟩:=a 8 AY;obtain⟨m,N⟩:=a 9 AY;obtain⟨L,K⟩:=a 10 AY;simp only[vcg]at cw;clear e a h;refine⟨_,?_,d,λk hk=>?_,λB i=>?_⟩
 .clear d;go_simp
 .iterate 11 rw[vav _ _ _ _ hk]
 iterate 11 refine Below.setCell ?_ i _
 exact vaa _ _
theorem NU(cw c1 cg du d c b a g f e:Value)(t:cV):xc #[cw,c1,cg,du,d,c,b,a,g,f,e] 0 t=dB t:=by kernel_rfl
def ag.cast{a:dC}(h:ag w b cs T)(e:cs=a):ag w b a T:=e▸h
def Eb(c:Int)(a b:dM):dM:=if c<0 then a else b
def vR{W:aH}{b1 g f cr o:Nat}{c1 cg du l:dC}(r:ag W b1 c1 T)(q:ag W g cg T)(p:ag W f du T)(s:ag W cr l T)(n:Below b1 w W)(k:f<cr)(e d b a:Value)(c:dC)(m:(((l.setIfInBounds o e).setIfInBounds (o+1) d).setIfInBounds (o+2) b).setIfInBounds (o+3) a=c)(t:g<f:=by omega)(u:b1<g:=by omega):
 ag ((((W.setCell ⟨cr,o,none⟩ e).setCell ⟨cr,o+1,none⟩ d).setCell ⟨cr,o+2,none⟩ b).setCell ⟨cr,o+3,none⟩ a) b1 c1 T/\ag ((((W.setCell ⟨cr,o,none⟩ e).setCell ⟨cr,o+1,none⟩ d).setCell ⟨cr,o+2,none⟩ b).setCell ⟨cr,o+3,none⟩ a) g cg T/\ag ((((W.setCell ⟨cr,o,none⟩ e).setCell ⟨cr,o+1,none⟩ d).setCell ⟨cr,o+2,none⟩ b).setCell ⟨cr,o+3,none⟩ a) f du T/\ag ((((W.setCell ⟨cr,o,none⟩ e).setCell ⟨cr,o+1,none⟩ d).setCell ⟨cr,o+2,none⟩ b).setCell ⟨cr,o+3,none⟩ a) cr c T/\Below b1 w ((((W.setCell ⟨cr,o,none⟩ e).setCell ⟨cr,o+1,none⟩ d).setCell ⟨cr,o+2,none⟩ b).setCell ⟨cr,o+3,none⟩ a)/\f<cr:=by
 have n1:b1≠cr:=AY;have j:g≠cr:=AY;have h:f≠cr:=AY;have i:b1<=cr:=AY;exact⟨(((r.fL n1 _).fL n1 _).fL n1 _).fL n1 _,(((q.fL j _).fL j _).fL j _).fL j _,(((p.fL h _).fL h _).fL h _).fL h _,m▸((((s.set o e).set (o+1) d).set (o+2) b).set (o+3) a),(((n.setCell i _).setCell i _).setCell i _).setCell i _,k⟩
def atY{u:Bool}{F:Prop}{x:uaq}(n:o.guard=none)(hd:o.dst=none)(d:o.op=.store 193 x y)(g:a.eval x=.P b off){t:cV}(f:a.eval y=og t)(h:ag w b cs T)(hs:off+11<=cs.size)(hk:∀w',ag w' b (xc cs off t) T->(∀k,k≠b->w'.heap[k]?=w.heap[k]?)->(∀B,B<=b->Below B w w')->K a w'):if Region.wanted o (yielded ops a.tmps)=true then Oper.wpIn Fence.wide bY (aa prog u) o a w K Q else F:=by
 obtain⟨w',m,l,j,i⟩:=NT u d g f h h.rules.2 hs;refine vU n (λc e=>by rw[d]at e;cases e) Dk m ?_;rw[hd];exact hk w' l j i
abbrev vT:Array Value:=#[.I 0,.I 0,.int .u64 0,.F,.I 0,.I 0,.E,.F,.I 0,.I 0,.E]
abbrev u3(w:aH)(t o:cV):aH:=((w.alloc (.cells (dB t) 193)).alloc (.cells (dB o) 193)).alloc (.cells vT 193)
abbrev Ud(W:aH)(n:Nat)(t o:cV):Prop:=ag W n (dB t) 193/\ag W (n+1) (dB o) 193/\ag W (n+1+1) vT 193
abbrev Ec(w W:aH)(n b:Nat)(t o:cV)(c:dC):Prop:=ag W n (dB t) 193/\ag W (n+1) (dB o) 193/\ag W (n+1+1) vT 193/\ag W b c 193/\Below n w W/\n+1+1<b
def atZ{u:Bool}(t o:cV)(h1:t.held≠0)(h2:o.held≠0)(hs:ky t.sum)(oy:ky o.sum)(hr:jf (t.held+o.held))(w:aH):
 Calls (aa prog u) 88 #[og t,og o] w λe w'=>e=.returned (og (D_ t o))/\cC w w':=by
 have x4:D_ t o=⟨t.held+o.held,t.sum+o.sum,if AS o.least t.least<0 then o.least else t.least,if 0<AS o.greatest t.greatest then o.greatest else t.greatest⟩:=by simp[D_,h1,h2]
 obtain⟨c1,P⟩:∃c,c=AS o.least t.least:=⟨_,rfl⟩;obtain⟨cg,O⟩:∃c,c=AS o.greatest t.greatest:=⟨_,rfl⟩;have at0:∀W,Calls (aa prog u) 112 #[jZ o.least,jZ t.least] W λe w'=>e=.returned (.I c1)/\cC W w':=λW=>by rw[P];exact sx _ _ W
 have at1:∀W,Calls (aa prog u) 112 #[jZ o.greatest,jZ t.greatest] W λe w'=>e=.returned (.I cg)/\cC W w':=λW=>by rw[O];exact sx _ _ W
 rw[x4,<-P,<-O];clear x4 P O;obtain⟨L,aB⟩:∃L:dM,L=Eb c1 o.least t.least:=⟨_,rfl⟩;obtain⟨M,V⟩:∃M:dM,M=Eb (-cg) o.greatest t.greatest:=⟨_,rfl⟩;have e2:(if 0<cg then o.greatest else t.greatest)=M:=by rw[V,Eb];by_cases h:0<cg<;>simp[h]
 rw[e2,show(if c1<0 then o.least else t.least)=L from aB.symm];have sF:Hid _:=aB;have nF:Hid _:=V;clear aB V e2;have N:Hid (ky t.sum/\ky o.sum):=⟨hs,oy⟩;have hw:IntKind.wrap .i64 (t.held+o.held)=t.held+o.held:=De;clear hs oy;go_enter (vZ u),ntmps88
 go_upto_region 5 with fail
 have c9:=((ag.new w (dB t) 193).alloc (.cells (dB o) 193)).alloc (.cells vT 193);have U:=(ag.new (w.alloc (.cells (dB t) 193)) (dB o) 193).alloc (.cells vT 193);have T:=ag.new ((w.alloc (.cells (dB t) 193)).alloc (.cells (dB o) 193)) vT 193;simp only[vce]at U T;have q:Hid (cC w (u3 w t o).drew):=((((vaa _ w).alloc IB _).alloc Ab _).alloc BC _).drew;have z:Hid ((u3 w t o).heap.size=w.heap.size+1+1+1):=by unfold Hid;simp
 have HC:Hid (Ud (u3 w t o).drew w.heap.size t o):=⟨c9,U,T⟩;clear c9 U T;unfold u3 at q z HC;generalize((w.alloc (.cells (dB t) 193)).alloc (.cells (dB o) 193)).alloc (.cells vT 193)=R at *;refine wpIn_wide.1 (wpIn_region_any (n:=0) AU (AJ (C:=λW=>Ud W w.heap.size t o) _ _ _ _ ?_));refine cR (i:=0) (v:=.P w.heap.size 0) rfl AU AU AU IG HC.out ⟨Av,λW d=>Ah,(λc h=>nomatch h),λ_=>rfl⟩ ?_;refine cR (i:=2) (v:=.P (w.heap.size+1) 0) rfl AU AU AU IG HC.out ⟨Av,λW d=>Ah,(λc h=>nomatch h),λ_=>rfl⟩ ?_;refine cR (i:=5) (v:=.P w.heap.size 1) rfl AU AU AU IG HC.out ⟨Av,λW d=>Ah,(λc h=>nomatch h),λ_=>rfl⟩ ?_;refine cR (i:=7) (v:=.P (w.heap.size+1) 1) rfl AU AU AU IG HC.out ⟨Av,λW d=>Ah,(λc h=>nomatch h),λ_=>rfl⟩ ?_;refine cR (i:=10) (v:=.P w.heap.size 3) rfl AU AU AU IG HC.out ⟨Av,λW d=>Ah,(λc h=>nomatch h),λ_=>rfl⟩ ?_;refine cR (i:=12) (v:=.P w.heap.size 7) rfl AU AU AU IG HC.out ⟨Av,λW d=>Ah,(λc h=>nomatch h),λ_=>rfl⟩ ?_;refine cR (i:=1) (v:=.I t.held) rfl AU AU AU IG HC.out ⟨Av,λW d=>Dr,(λc h=>nomatch h),λ_=>rfl⟩ ?_;refine cR (i:=3) (v:=.I o.held) rfl AU AU AU IG HC.out ⟨Av,λW d=>by obtain⟨F,E,A⟩:=d.2.1.all;go_simp,(λc h=>nomatch h),λ_=>rfl⟩ ?_;refine cR (i:=6) (v:=w_ t.sum) rfl AU AU AU IG HC.out ⟨Av,λW d=>Dr,(λc h=>nomatch h),λ_=>rfl⟩ ?_;refine cR (i:=8) (v:=w_ o.sum) rfl AU AU AU IG HC.out ⟨Av,λW d=>by obtain⟨F,E,A⟩:=d.2.1.all;go_simp,(λc h=>nomatch h),λ_=>rfl⟩ ?_;refine cR (i:=11) (v:=jZ t.least) rfl AU AU AU IG HC.out ⟨Av,λW d=>Dr,(λc h=>nomatch h),λ_=>rfl⟩ ?_;refine cR (i:=13) (v:=jZ t.greatest) rfl AU AU AU IG HC.out ⟨Av,λW d=>Dr,(λc h=>nomatch h),λ_=>rfl⟩ ?_;refine cR (i:=4) (v:=.I (t.held+o.held)) rfl AU AU AU IG HC.out ⟨Av,λW d=>Ah,(λc h=>nomatch h),λ_=>rfl⟩ ?_;refine vX (i:=9) (j:=15) AU rfl rfl (λK hK=>?_) (λK hK=>?_);focus
  go_simp
  refine⟨PA,rfl,(vea.2 (tn _ _ N.out.1 N.out.2 _)).mono ?_⟩;rintro e w1 ⟨rfl,f⟩;have m:Hid (Ud w1 w.heap.size t o):=⟨HC.out.1.call f,HC.out.2.1.call f,HC.out.2.2.call f⟩;have Q:Hid (cC w w1):=q.out.trans (f.mono q.out.size);have J:Hid (w.heap.size+1+1<w1.heap.size):=by have:=f.size;have h2:=z.out;unfold Hid;simp at this;omega
  clear f HC q z;refine hK _ _ m.out ?_;clear hK K;refine cR (i:=14) (v:=og ⟨t.held+o.held,t.sum+o.sum,t.least,t.greatest⟩) rfl AU AU AU IG m.out ⟨Av,λW d=>Ah,(λc h=>nomatch h),λ_=>rfl⟩ ?_;refine js (i:=15) AU rfl λK hK=>?_;go_simp
  refine hK _ _ ⟨m.out.1.alloc _,m.out.2.1.alloc _,m.out.2.2.alloc _⟩ ?_;clear hK K;have a:Hid (Ec w (w1.alloc (.cells vT 193)) w.heap.size w1.heap.size t o vT):=⟨m.out.1.alloc _,m.out.2.1.alloc _,m.out.2.2.alloc _,ag.new _ _ _,Q.out.alloc Q.out.size _,J.out⟩;clear m Q J;generalize w1.alloc (.cells vT 193)=W2 at *;generalize w1.heap.size=cr at *
 rotate_left
 focus
  go_simp
  refine hK _ _ ⟨HC.out.1.alloc _,HC.out.2.1.alloc _,HC.out.2.2.alloc _⟩ ?_;clear hK K;refine js (i:=9) AU rfl λK hK=>?_;go_simp
  refine⟨PA,rfl,(vea.2 (tn _ _ N.out.1 N.out.2 _)).mono ?_⟩;rintro e W2 ⟨rfl,f⟩;have a:Hid (Ec w W2 w.heap.size R.heap.size t o vT):=⟨(HC.out.1.alloc _).call f,(HC.out.2.1.alloc _).call f,(HC.out.2.2.alloc _).call f,(ag.new R _ _).drew.call f,(q.out.alloc q.out.size _).trans (f.mono (by simp;have:=q.out.size;simp at this;omega)),by have:=z.out;omega⟩;refine hK _ _ ⟨a.out.1,a.out.2.1,a.out.2.2.1⟩ ?_;clear hK K f HC q z;generalize R.heap.size=cr at *;refine cR (i:=14) (v:=og ⟨t.held+o.held,t.sum+o.sum,t.least,t.greatest⟩) rfl AU AU AU IG ⟨a.out.1,a.out.2.1,a.out.2.2.1⟩ ⟨Av,λW d=>Ah,(λc h=>nomatch h),λ_=>rfl⟩ ?_
 rotate_left
 all_goals
  refine js (i:=16) AU rfl λK hK=>atY (t:=⟨t.held+o.held,t.sum+o.sum,t.least,t.greatest⟩) (b:=cr) (off:=0) rfl rfl rfl rfl rfl a.out.2.2.2.1 Ab λmw k1 r k3=>hK _ _ ⟨(r _ Bw).trans a.out.1,(r _ Bw).trans a.out.2.1,(r _ Bw).trans a.out.2.2.1⟩ ?_;have k:Hid (Ec w mw w.heap.size cr t o (dB ⟨t.held+o.held,t.sum+o.sum,t.least,t.greatest⟩)):=⟨(r _ Bw).trans a.out.1,(r _ Bw).trans a.out.2.1,(r _ Bw).trans a.out.2.2.1,bB.ag.cast k1 (NU ..),a.out.2.2.2.2.1.trans (k3 _ Bw),a.out.2.2.2.2.2⟩;clear hK K k1 r k3 a;refine AK AU ?_ _;obtain⟨a1,Y,X⟩:=k.out.1.all;obtain⟨b1,I,H⟩:=k.out.2.1.all;go_wp2_with fail
  refine(at0 _).mono ?_;rintro e w4 ⟨rfl,x⟩;have g:Hid (Ec w w4 w.heap.size cr t o (dB ⟨t.held+o.held,t.sum+o.sum,t.least,t.greatest⟩)):=⟨k.out.1.call x,k.out.2.1.call x,k.out.2.2.1.call x,k.out.2.2.2.1.call x,k.out.2.2.2.2.1.trans (x.mono k.out.2.2.2.2.1.size),k.out.2.2.2.2.2⟩;clear a1 Y X b1 I H x k;obtain⟨a1,Y,X⟩:=g.out.1.all;obtain⟨b1,I,H⟩:=g.out.2.1.all;obtain⟨d1,D,B⟩:=g.out.2.2.2.1.all;by_cases Bl:c1<0;case' pos=>
   go_wp2_with fail
   have p:Hid _:=vR (o:=3) g.out.1 g.out.2.1 g.out.2.2.1 g.out.2.2.2.1 g.out.2.2.2.2.1 g.out.2.2.2.2.2 (.bool o.least.dN) (.I o.least.num) (.I o.least.cY) (.string o.least.text) (dB ⟨t.held+o.held,t.sum+o.sum,L,t.greatest⟩) (by rw[sF.out,Eb,vdi AY];kernel_rfl)
  case' neg=>
   go_wp2_with fail
   have p:Hid (Ec w w4 w.heap.size cr t o (dB ⟨t.held+o.held,t.sum+o.sum,L,t.greatest⟩)):=by have h:=g.out;rw[sF.out,Eb,vcy AY];exact h
  all_goals
   refine(at1 _).mono ?_;rintro e S ⟨rfl,y⟩;have l:Hid (Ec w S w.heap.size cr t o (dB ⟨t.held+o.held,t.sum+o.sum,L,t.greatest⟩)):=⟨p.out.1.call y,p.out.2.1.call y,p.out.2.2.1.call y,p.out.2.2.2.1.call y,p.out.2.2.2.2.1.trans (y.mono p.out.2.2.2.2.1.size),p.out.2.2.2.2.2⟩;clear a1 Y X b1 I H d1 D B y g p;obtain⟨b1,I,H⟩:=l.out.2.1.all;obtain⟨d1,D,B⟩:=l.out.2.2.2.1.all;by_cases pE:0<cg;case' pos=>
    go_upto_region 10 with fail
    have s:Hid _:=vR (o:=7) l.out.1 l.out.2.1 l.out.2.2.1 l.out.2.2.2.1 l.out.2.2.2.2.1 l.out.2.2.2.2.2 (.bool o.greatest.dN) (.I o.greatest.num) (.I o.greatest.cY) (.string o.greatest.text) (dB ⟨t.held+o.held,t.sum+o.sum,L,M⟩) (by rw[nF.out,Eb,vdi AY];kernel_rfl);generalize World.setCell _ _ _=Z at *
   case' neg=>
    go_upto_region 10 with fail
    have s:Hid (Ec w S w.heap.size cr t o (dB ⟨t.held+o.held,t.sum+o.sum,L,M⟩)):=by have h:=l.out;rw[nF.out,Eb,vcy AY];exact h
    generalize S=Z at *
   all_goals
    clear b1 I H d1 D B l;obtain⟨d1,D,B⟩:=s.out.2.2.2.1.all;obtain⟨f1,f2,f3⟩:=s.out.2.2.1.all;go_wp2_with fail
    have bI:=wi s.out.2.2.1 (.I (t.held+o.held)) (.I ((t.sum+o.sum) / 18446744073709551616)) (.int .u64 ((t.sum+o.sum) % 18446744073709551616)) (.bool L.dN) (.I L.num) (.I L.cY) (.string L.text) (.bool M.dN) (.I M.num) (.I M.cY) (.string M.text);have a:Hid _:=we s.out.2.2.2.2.1 (show w.heap.size<=w.heap.size+1+1 by omega) (.I (t.held+o.held)) (.I ((t.sum+o.sum) / 18446744073709551616)) (.int .u64 ((t.sum+o.sum) % 18446744073709551616)) (.bool L.dN) (.I L.num) (.I L.cY) (.string L.text) (.bool M.dN) (.I M.num) (.I M.cY) (.string M.text);clear d1 D B f1 f2 f3 s;unfold NS at bI a;generalize World.setCell _ _ _=aDx at *;obtain⟨aQ,aT,q3⟩:=bI.all;exact vbe (v:=og ⟨t.held+o.held,t.sum+o.sum,L,M⟩) (by simp[results,results88,go_sem,aQ,q3]) rfl ⟨rfl,a.out⟩
def vQ:(aa prog false).funcs[(206:Nat)]?=some f206:=bo (upd:=false) func206 AT
@[simp] theorem aDz:cS false 206:=cN vQ AT
theorem at3{rest:ubf}{x:uaq}(_:o.op=.store 193 x y)(h:hJ (wpList P ops Q (o::rest) a w)):wpList P ops Q (o::rest) a w:=h
def at4{u:Bool}{rest:ubf}{x:uaq}(l:o.guard=none)(hd:o.dst=none)(e:o.op=.store 193 x y)(d:a.eval x=.P b off){t:cV}(c:a.eval y=og t)(h:ag w b cs T)(hs:off+11<=cs.size)(hk:∀w',ag w' b (xc cs off t) T->(∀k,k≠b->w'.heap[k]?=w.heap[k]?)->(∀B,B<=b->Below B w w')->wpList (aa prog u) ops Q rest a w'):wpList (aa prog u) ops Q (o::rest) a w:=by
 obtain⟨w',j,i,g,f⟩:=NT u e d c h h.rules.2 hs;refine wpList_plain l λK hK=>?_;unfold Oper.wp;rw[j];have:=hK (a.put none undef) _ (hk w' i g f);rw[<-hd]at this;exact this
def at5(v:dM)(hv:jf v.num)(aA aR gc:Nat)(s:Value)(pa:uad)(aJ pc:Nat)(w:aH)(hk:w.cell? (.a aA aR)=some (.I 2))(z:w.cell? (.a aA (aR+1))=some (.I 0))(J:n2 w s [v]):
 Calls (aa prog false) 206 #[.S aA aR 1 gc,.agg #[.slice pa aJ pc,s]] w λe w'=>∃b,e=.returned (.S b 0 1 1)/\ag w' b (dB (lG v)) 193/\w.heap.size<=b/\cC w w':=by
 obtain⟨M,d,rfl,-,D⟩:=J;obtain⟨a,c,rfl,f0,f1,f,f3,-⟩:=D 0 Ab;simp only[Nat.zero_mul,vcg,List.getElem_cons_zero]at f0 f1 f f3;have E:=dx hk;have C:=dx f0;have r:=(ag.new w #[.slice pa aJ pc,.S a c [v].length d] 67).alloc (.cells (dB rI) 193);have m:=ag.new (w.alloc (.cells #[.slice pa aJ pc,.S a c [v].length d] 67)) (dB rI) 193;have l:Hid _:=((vaa w.heap.size w).alloc IB (.cells #[.slice pa aJ pc,.S a c [v].length d] 67)).alloc Ab (.cells (dB rI) 193);simp only[vce]at m;have K:∀W:aH,(Instr.makeSlice 136 (.I 1) (.I 1)).run (aa prog false) W=.ok (.S W.heap.size 0 1 1) (W.alloc (.cells (dB rI) 193)):=λW=>AU;go_enter vQ,ntmps206
 go_wp2
 have n:Hid (ag ((w.alloc (.cells #[.slice pa aJ pc,.S a c [v].length d] 67)).alloc (.cells (dB rI) 193)) w.heap.size #[.slice pa aJ pc,.S a c 1 d] 67/\ag ((w.alloc (.cells #[.slice pa aJ pc,.S a c [v].length d] 67)).alloc (.cells (dB rI) 193)) (w.heap.size+1) (dB rI) 193):=⟨r,m⟩;clear r m;have o:Hid _:=And.intro hk (And.intro z (And.intro f0 (And.intro f1 (And.intro f f3))));clear hk z f0 f1 f f3 D E C;go_loopw [14] (λi W=>(i=.I 0/\W=((w.alloc (.cells #[.slice pa aJ pc,.S a c [v].length d] 67)).alloc (.cells (dB rI) 193)))\/(i=.I 1/\ag W (w.heap.size+1) (dB (lG v)) 193/\cC w W)) (λi _=>1-(intOf i).toNat)
 case atStart=>exact .inl ⟨U,U⟩
 case round=>
  rcases hrel with⟨rfl,rfl⟩|⟨rfl,A,y⟩
  .generalize((w.alloc (.cells #[.slice pa aJ pc,.S a c [v].length d] 67)).alloc (.cells (dB rI) 193))=h at *;have g:=bm.b4 l.out;obtain⟨k,j,f0,f1,f,f3⟩:=o.out;replace k:=g _ _ _ k;replace j:=g _ _ _ j;replace f0:=g _ _ _ f0;replace f1:=g _ _ _ f1;replace f:=g _ _ _ f;replace f3:=g _ _ _ f3;have E:=dx k;have C:=dx f0;obtain⟨r1,F,L⟩:=n.out.1.all;clear g o;have u:Hid (cC h ((h.alloc (.cells #[.I 2,.I 0] 37)).alloc (.cells #[.bool v.dN,.I v.num,.I v.cY,.string v.text] 84))):=((vaa _ h).alloc IB _).alloc Ab _;go_wp2_with (first|(go_at_call 207;refine(atW v hv _).mono ?_;rintro e w2 ⟨rfl,B⟩)|(with_reducible refine at3 U ?_))
   unfold hJ;have hbA:cC h w2:=by
    refine Below.trans ?_ (B.mono ?_)
    .repeat first|exact vaa _ _ |refine Below.setCell ?_ Ab _ |refine Below.alloc ?_ Ab _
    .simp;omega
   have bI:=n.out.2.call hbA;refine at4 (t:=lG v) (b:=w.heap.size+1) (off:=0) U U U U U bI Ab λp j H x=>?_;have q:Hid (ag p (w.heap.size+1) (dB (lG v)) 193/\cC w p):=⟨bB.ag.cast j (NU ..),(l.out.trans (hbA.mono l.out.size)).trans (x _ (vcl _))⟩;clear j H x hbA bI B k f0 f1 f f3 r1 F;go_wp2
   go_roundw
   case rel=>exact .inr ⟨U,q.out.1,q.out.2⟩
   case measure=>simp[intOf]
  .have I:Hid _:=A;have u:Hid _:=y;clear A y o n l;go_wp2
   go_ret
   exact⟨_,U,I.out,vcl _,u.out⟩
abbrev o_:Array Value:=#[.F,.I 0,.I 0,.E,.F,.I 0,.I 0,.E,.F,.I 0,.I 0,.E,.F,.I 0,.I 0,.E]
def vK:(aa prog false).funcs[(47:Nat)]?=some f47:=bo (upd:=false) func47 AT
@[simp] theorem aDB:cS false 47:=cN vK AT
theorem at6(pa b:uad)(aJ pc c a:Nat)(w:aH):
 Calls (aa prog false) 47 #[.agg #[.slice pa aJ pc,.slice b c a],.N] w λe w'=>e=.returned (.agg o_)/\cC w w':=by
 have d:=(ag.new (w.alloc (.cells #[.slice pa aJ pc,.slice b c a] 67)) o_ 131).alloc (.cells o_ 131);have f:=ag.new ((w.alloc (.cells #[.slice pa aJ pc,.slice b c a] 67)).alloc (.cells o_ 131)) o_ 131;have j:Hid _:=(((vaa w.heap.size w).alloc IB (.cells #[.slice pa aJ pc,.slice b c a] 67)).alloc Ab (.cells o_ 131)).alloc BC (.cells o_ 131);simp only[vce]at d f;go_enter vK,ntmps47
 go_wp2
 generalize((w.alloc (.cells #[.slice pa aJ pc,.slice b c a] 67)).alloc (.cells o_ 131)).alloc (.cells o_ 131)=h at *;go_loopw [10] (λi W=>i=.I 0/\W=h) (λ_ _=>0)
 case atStart=>exact⟨U,U⟩
 case round=>
  obtain⟨rfl,rfl⟩:=hrel;obtain⟨c1,cg,du⟩:=d.all;obtain⟨d1,l,k⟩:=f.all;clear d f;go_wp2
  have g:w.heap.size<=w.heap.size+1:=vcl _;refine vbe (v:=.agg o_) (by simp[results,results47,go_sem,c1,du]) U ⟨U,?_⟩;iterate 16 refine Below.setCell ?_ g _
  exact j.out
