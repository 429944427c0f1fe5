import Derived.Test.YtncomcmfgmojkaaGreatPAK
import Derived.Test.YtncomcmfgmojkaaGreatPAN
set_option linter.all false
set_option maxRecDepth 100000
set_option maxHeartbeats 16000000
namespace Go.Proofs.YtncomcmfgmojkaaGreat
open Go.Proofs.Tryz
namespace aG
open Conc ConcM av bn cz c5
abbrev cU(P:cg):cO:=ed P true
section
variable{ρ:Ren}
def Zv(h1:∀a b d,ρ.rel a b->ρ.rel a d->b=d){a b c:Addr}(h:dt ρ a b)(k:dt ρ a c):b=c:=by obtain⟨o,dA,n⟩:=b;obtain⟨m,l,e⟩:=c;obtain⟨j,i,g⟩:=h;obtain⟨p,q,f⟩:=k;grind
def St(h1:∀a b p,ρ.rel a b->ρ.rel a p->b=p){x y:Value}(h:ay ρ x y):∀{z:Value},ay ρ x z->y=z:=by
 have all:∀{a a':Array Value},a.size=a'.size->(∀(i:Nat)(v d:Value),a[i]?=some v->a'[i]?=some d->∀{z:Value},ay ρ v z->d=z)->∀{b:Array Value},a.size=b.size->(∀(i:Nat)(v d:Value),a[i]?=some v->b[i]?=some d->ay ρ v d)->a'=b:=by
  intro a a' hs g b o k;apply Array.ext
  .grind
  .intro i hi F;have H:i<a.size:=hs▸hi;exact g i a[i] a'[i] AA AA (k i _ _ AA AA)
 induction h with
 |bool b=>intro z k;cases k;rfl
 |int k n=>intro z k;cases k;rfl
 |string s=>intro z k;cases k;rfl
 |lj=>intro z k;cases k;rfl
 |ptr r=>intro z k;cases k with|ptr e=>rw[Zv h1 r e]
 |jy l c=>intro z k;cases k;rfl
 |slice l c r=>intro z k;cases k with|slice _ _ e=>rw[Zv h1 r e]
 |pT=>intro z k;cases k;rfl
 |map r=>intro z k;cases k with|map e=>grind
 |o7=>intro z k;cases k;rfl
 |func D E o _ _ C B=>intro z k;cases k with|func m j u A w=>rw[all E C j A,all o B u w];cases D with|func f=>cases m;rfl|yield r=>cases m with|yield e=>grind
 |nilFunc=>intro z k;cases k;rfl
 |iface t _ g=>intro z k;cases k with|iface _ k'=>grind
 |nilIface=>intro z k;cases k;rfl
 |agg hs _ g=>intro z k;cases k with|agg q k'=>grind
 |tuple hs _ g=>intro z k;cases k with|tuple q k'=>grind
end
def fX(P:cg):Item->Bool
 | .code c| .inLoop c| .inScope c=>ji P true c
 | .inBlock _=>true
 | .inRegion ops _=>ops.all λo=>pb P true o.op
 | _=>false
variable{P:cg}
variable{c:Code}
def Su(a:(cU P).Good)(h:ji P true c=true):(cU P).lG c:=(a.oe c).2 ((W9 P true true c).trans h)
def am9(a:(cU P).Good){ρ:Ren}{x:Item}(h:fX P x=true):rH (cU P) ρ x x:=by cases x with|code c=>exact .code (Su a h)|inLoop c=>exact .inLoop (Su a h)|inScope c=>exact .inScope (Su a h)|inBlock id=>exact .inBlock id|inRegion ops l=>exact .inRegion (λo b=>(W8 P true true o.op).trans (Array.all_eq_true_iff_forall_mem.1 h o b)) l| _=>cases h
theorem Zx(a:(cU P).Good){ρ:Ren}:∀{l:List Item},l.all (fX P)=true->mE (cU P) ρ l l
 | [],_=>.nil
 |x::l,h=>by simp only[List.all_cons,Bool.and_eq_true]at h;exact .cons (am9 a h.1) (Zx a h.2)
theorem Zy{ρ:Ren}:∀{l a:List Item},l.all (fX P)=true->mE (cU P) ρ l a->a=l
 | [],_,_,h=>by cases h;rfl
 |x::l,_,hk,h=>by simp only[List.all_cons,Bool.and_eq_true]at hk;cases h with|cons b c=>rw[Zy hk.2 c];cases b<;>first|rfl|cases hk.1
def kY(P:cg)(f:FuncId):Prop:=∃fn c,(ae P true).funcs[f]?=some fn/\fn.body=some c
def IK(d:(cU P).Good){ρ:Ren}{f:FuncId}(b:kY P f){a:Act}(c:aS ρ a.tmps a.tmps)(hd:a.defers=[]){k:List Item}(hk:k.all (fX P)=true):ek (cU P) ρ ((base f).at a k) ((base f).at a k):=
 ⟨Y,b,c,Zx d hk,by show qQ ρ a.defers a.defers;rw[hd];exact .nil,.run,Y,.inl Y,.none⟩
theorem IL{ρ:Ren}{f:FuncId}{a:Act}(hd:a.defers=[]){k:List Item}(hk:k.all (fX P)=true){e:Frame}(h:ek (cU P) ρ ((base f).at a k) e):∃a':Act,e=(base f).at a' k/\aS ρ a.tmps a'.tmps/\a'.defers=[]:=by obtain⟨fn,tmps,todo,defers,mode,kind,ro⟩:=e;obtain⟨h1,_,h3,j,b,l,c,_,m⟩:=h;have d:todo=k:=Zy hk j;have b:qQ ρ a.defers defers:=b;rw[hd]at b;have i:tA ρ .run mode:=l;have g:od ρ.rel none ro:=m;cases b;cases i;cases g;refine⟨⟨tmps,[]⟩,?_,h3,Y⟩;subst d;have h1:f=fn:=h1;have c:CallKind.normal=kind:=c;subst h1;subst c;rfl
structure gW where
 n:Nat
 heap:Array Obj
abbrev hO(M:Nat->Prop):Nat->Prop:=M
abbrev cq(M:Nat->Prop):Ren:=e6 M (hO M)
structure Home(O:gW)(P:cg)(M:Nat->Prop)(Shun:Loc->Prop)(w:aO):Prop where
 cl:ik (cU P) M (hO M) w
 FJ:∀g,g<=P.globals.size->M g
 sh:∀b,M b\/w.heap.size<=b->∀l,e8 l=some b->¬Shun l
 new:∀b,M b->b≠0->O.n<=b
 ob:O.n<=w.heap.size
 old:∀b,0<b->b<O.n->w.heap[b]?=O.heap[b]?
 so:∀b,b<O.n->∀l,e8 l=some b->¬Shun l
structure nY(w w':aO):Prop where
 size:w.heap.size<=w'.heap.size
 later:OsLater w.os w'.os
 output:w'.output=w.output
 tape:w'.tape=w.tape
theorem nY.refl(w:aO):nY w w:=⟨Nat.le_refl _,.refl _,Y,Y⟩
theorem nY.trans{a b c:aO}(h:nY a b)(k:nY b c):nY a c:=⟨Nat.le_trans h.size k.size,h.later.trans k.later,k.output.trans h.output,k.tape.trans h.tape⟩
def px(ρ:Ren):Nat->Prop:=λb=>∃a,ρ.rel a b
section
variable{O:gW}{Post:Value->aO->Prop}{n:Nat}{Shun:Loc->Prop}{M:Nat->Prop}{w:aO}
theorem Home.at(h:Home O P M Shun w)(k:Nat):Home O P M Shun (w.at k):=⟨h.cl,h.FJ,h.sh,h.new,h.ob,h.old,h.so⟩
def Home.lt(h:Home O P M Shun w){b:Nat}(a:M b):b<w.heap.size:=by obtain⟨o,h1,_⟩:=h.cl b a;grind
structure Behind(O:gW)(P:cg)(M:Nat->Prop)(Shun:Loc->Prop)(w:aO)(ρ:Ren)(bH w':aO):Prop where
 rel:∃S,ew (cU P) S ρ bH w'
 le:Ren.le (cq M) ρ
 fF:Home O P (px ρ) Shun w'
 since:nY w w'
 old:∀a b,ρ.rel a b->(a=b/\M b)\/w.heap.size<=b
def Behind.same{ρ:Ren}{e w':aO}(h:Behind O P M Shun w ρ e w'){v a:Value}(c:ay (cq M) v v)(d:ay ρ v a):a=v:=by obtain⟨S,b⟩:=h.rel;exact(St b.one (c.mono h.le) d).symm
def Behind.mem{ρ:Ren}{c w':aO}(h:Behind O P M Shun w ρ c w'){b:Nat}(a:M b):px ρ b:=⟨b,h.le.1 b b ⟨Y,a⟩⟩
def Behind.val{ρ:Ren}{e w':aO}(_:Behind O P M Shun w ρ e w'){v b:Value}(c:ay ρ v b):ay (cq (px ρ)) b b:=ay.right (σ:=cq (px ρ)) (λa _ d=>⟨Y,a,d⟩) c
def Behind.all{ρ:Ren}{e w':aO}(_:Behind O P M Shun w ρ e w'){v b:Array Value}(c:aS ρ v b):aS (cq (px ρ)) b b:=aS.right (σ:=cq (px ρ)) (λa _ d=>⟨Y,a,d⟩) c
theorem Behind.carry{ρ:Ren}{a w':aO}(h:Behind O P M Shun w ρ a w'):Carry ρ a w':=by obtain⟨S,b⟩:=h.rel;exact b.carry
theorem Home.cell(h:Home O P M Shun w){a:Addr}{v:Value}(k:M a.block)(i:w.cell? a=some v):ay (cq M) v v:=by
 obtain⟨c,e,fr,g,l,d⟩:=tx i;obtain⟨o,f,b⟩:=h.cl _ k;rw[g]at f;cases f;rcases b with b|b
 .cases b with|cells _ j _=>exact j.get _ _ _ d d
 .exact b.elim
theorem Home.laid(h:Home O P M Shun w){b:aO}(i:gA (cU P) M (hO M) w b){a:Addr}{v:Value}(g:M a.block)(f:w.cell? a=some v):b.cell? a=some v:=by obtain⟨c,e,fr,d,l,k⟩:=tx f;obtain⟨j,m,_⟩:=i.cells h.cl g d;grind[nE]
def Behind.kept{ρ:Ren}{f e w':aO}(h:Behind O P M Shun w ρ e w')(g:Home O P M Shun w)(j:gA (cU P) M (hO M) w f){a:Addr}{v:Value}(b:M a.block)(d:w.cell? a=some v)(hk:f.cell? a=some v->e.cell? a=some v):w'.cell? a=some v:=by obtain⟨v2,c,i⟩:=h.carry a a v ⟨h.le.1 _ _ ⟨Y,b⟩,Y,Y⟩ (hk (g.laid j b d));rw[h.same (g.cell b d) i]at c;exact c
theorem Behind.keeps{ρ:Ren}{g f w':aO}(h:Behind O P M Shun w ρ f w')(i:Home O P M Shun w)(j:gA (cU P) M (hO M) w g)(hk:bo g f):Carry (cq M) w w':=by
 rintro a a' v ⟨⟨h1,hd⟩,k,h3⟩ c;have e:a=a':=by obtain⟨x,y,z⟩:=a';obtain⟨p,q,r⟩:=a;grind
 subst e;refine⟨v,h.kept i j hd c λx=>?_,i.cell hd c⟩;obtain⟨b,o,sp⟩:=a;obtain⟨_,_,_,_,d,_⟩:=tx c;simp only at d;subst d;exact hk b o v x
def Home.next(c:Home O P M Shun w){X Y:aV}(f:cz.Left X Y)(l:X.w=w/\X.mine=hO M){ρ:Ren}{S:Sync}{m:aO}{k:Nat}(j:ew (cU P) S ρ m (Y.w.at k))(e:Ren.le (cq M) ρ)(hold:∀a b,ρ.rel a b->(cq M).rel a b\/w.heap.size<=b):Home O P (px ρ) Shun (Y.w.at k):=by
 obtain⟨rfl,n⟩:=l;have kept:∀b,b<X.w.heap.size->¬hO M b->Y.w.heap[b]?=X.w.heap[b]?:=λb h1 o=>f.kept b h1 AA;refine⟨j.closed _,λg hg=>⟨g,e.1 g g ⟨rfl,c.FJ g hg⟩⟩,λb d=>?_,λb⟨a,i⟩ d=>?_,Nat.le_trans c.ob f.size,λb h0 d=>?_,c.so⟩
 .rcases d with⟨a,i⟩|d
  .rcases hold a b i with h|h
   .exact c.sh b (.inl h.2)
   .exact c.sh b (.inr h)
  .exact c.sh b (.inr (Nat.le_trans f.size d))
 .rcases hold a b i with h|h
  .exact c.new b h.2 d
  .exact Nat.le_trans c.ob h
 .refine(kept b (Nat.lt_of_lt_of_le d c.ob) λx=>?_).trans (c.old b h0 d);have:=c.new b x As;omega
def Zz(v:(cU P).Good)(i:Home O P M Shun w){f:FuncId}{fr:Frame}{cs0 bs:List Frame}(z:ek (cU P) (cq M) fr fr)(m:iy (cU P) (cq M) cs0 cs0)(x:iz fr cs0){R:Frame->List Frame->aO->aO->Prop}(hrun:∀e,gA (cU P) M (hO M) w e->∀T,∃c cse d,Steps (ae P true) (lone fr (cs0++[ey f]) {e with tape:=T}) (lone c (cse++[ey f]) d)/\R c cse e d)(y:∀ρ c cse e d j l w',gA (cU P) M (hO M) w e->R c cse e d->ek (cU P) ρ c j->iy (cU P) ρ cse l->Behind O P M Shun w ρ d w'->bS P Post n Shun 0 (aZ j (l++bs)) w'):
 bS P Post n Shun 0 (aZ fr (cs0++bs)) w:=by
 obtain⟨e,q⟩:=HB (cU P) M (hO M) w;have s:=W5 (C:=(cU P)) (f:=f) (base:=bs) (w0:=e) (mg:=w) (K:=λ_=>False) (qT:=hO M) (R:=λc cse d=>R c cse e d) v z m x (q.rel i.cl i.FJ AA) (λb h=>h) (λa b h=>.inr h.2)
  (λT=>by obtain⟨c,cse,d,⟨k,hk⟩,p⟩:=hrun e q T;exact⟨k,c,cse,d,hk,p⟩) true
 refine zU (Ss s rfl (λb u=>i.lt AA) (λb u=>i.sh b AA) ?_);rintro Y ⟨ρ,c,cse,d,T,p,ht⟩ g;obtain⟨j,l,hg,t,o⟩:=ht.frames;rw[hg];refine .stop λk=>y ρ c cse e d j l (Y.w.at k) q p t o ?_;have r:=ht.world.rely (w':=Y.w.at k) (bound:=0) (⟨λ_ _=>rfl,Nat.le_refl _,rfl⟩:jB (λ_=>False) Y (Y.w.at k)) ht.dom AA;exact⟨⟨_,r⟩,ht.le,i.next g ⟨rfl,rfl⟩ r ht.le ht.old,⟨g.size,g.os,g.output,g.tape⟩,λa b h=>(ht.old a b h).imp id id⟩
end
section
open kZ
variable{O:gW}
section
variable{P:cg}{Post:Value->aO->Prop}{n:Nat}{Shun:Loc->Prop}{M:Nat->Prop}{w:aO}
def SB(H:(cU P).Good)(hF:P.follows .rangeFuncRecover=true){D:fc}(m:Home O P M Shun w){f:FuncId}{fr:Frame}{cs0 bs:List Frame}{g:Goroutine}(hd:D.d<=bs.length)(A:mr P D (aZ fr (cs0++bs)) g)(L:ek (cU P) (cq M) fr fr)(s:iy (cU P) (cq M) cs0 cs0)(I:iz fr cs0){R:Frame->List Frame->aO->aO->Prop}(hrun:∀e,gA (cU P) M (hO M) w e->∀T,∃c cse d,Steps (ae P true) (lone fr (cs0++[ey f]) {e with tape:=T}) (lone c (cse++[ey f]) d)/\R c cse e d)(J:∀ρ c cse e d o p w' g',gA (cU P) M (hO M) w e->R c cse e d->ek (cU P) ρ c o->iy (cU P) ρ cse p->Behind O P M Shun w ρ d w'->mr P D (aZ o (p++bs)) g'->bS P Post n Shun 0 g' w'):
 bS P Post n Shun 0 g w:=by
 obtain⟨e,y⟩:=HB (cU P) M (hO M) w;have E:=oh.var hF hd (W0 (C:=(cU P)) (f:=f) (base:=bs) (w0:=e) (mg:=w) (K:=λ_=>False) (qT:=hO M) (R:=λc cse d=>R c cse e d) H L s I (y.rel m.cl m.FJ λ_ _ l=>.inl l) (λb h=>h) (λa b h=>.inr h.2)
  (λT=>by obtain⟨c,cse,d,⟨k,hk⟩,u⟩:=hrun e y T;exact⟨k,c,cse,d,hk,u⟩) true) g A
 refine zU (Ss E A.parts.1 (λb l=>m.lt (l.resolve_left λx=>x)) (λb l=>m.sh b (l.resolve_left λx=>x)) ?_);rintro B ⟨Y,⟨ρ,c,cse,d,T,u,ht⟩,z,v,N⟩ i;obtain⟨o,p,hg,F,t⟩:=ht.frames;rw[hg]at z;refine .stop λk=>J ρ c cse e d o p (B.w.at k) B.g y u F t ?_ z;have r:=ht.world.rely (w':=Y.w.at k) (bound:=0) (⟨λ_ _=>rfl,Nat.le_refl _,rfl⟩:jB (λ_=>False) Y (Y.w.at k)) ht.dom (λj q h=>absurd h (Nat.not_lt_zero _));rw[<-v]at r;exact⟨⟨_,r⟩,ht.le,m.next i ⟨rfl,rfl⟩ r ht.le ht.old,⟨i.size,i.os,i.output,i.tape⟩,λa b h=>(ht.old a b h).imp id id⟩
structure fp(D:fc)(a b:Act):Prop where
 size:b.tmps.size=a.tmps.size
 same:∀i,D.T i=false->b.tmps[i]?=a.tmps[i]?
 gone:∀i v,D.T i=true->a.tmps[i]?=some v->v=undef
 kept:∀i,D.K i=true->b.tmps[i]?=D.V i
 defers:b.defers=a.defers
structure zY(P:cg)(D:fc)(f:FuncId):Prop where
 FK:∃fn,P.funcs[f]?=some fn/\fn.results.all (B5 D)=true
 sl:∀t,D.sl t=true->∃e,P.underlying t=some (.slice e)
 MF:P.inits.idxOf? f=none
section
variable{D:fc}{f:FuncId}{a b:Act}{k:List Item}
def fp.SC(h:fp D a b)(f:FuncId)(k:List Item):eL D ((base f).at a k) ((base f).at b k):=
 ⟨by simp only[Frame.at,base,h.defers],h.size,h.same,λ_=>h.gone,λ_=>h.kept⟩
def zY.bg(h:zY P D f)(hk:k.all (gX D)=true)(a:Act):mT P D ((base f).at a k):=⟨λ_=>hk,Y,h.FK,h.sl,h.MF⟩
theorem eL.act{fr:Frame}(h:eL D ((base f).at a k) fr):∃b:Act,fr=(base f).at b k/\fp D a b:=by refine⟨⟨fr.tmps,a.defers⟩,?_,h.size,h.same,h.gone Y,h.kept Y,Y⟩;have:=h.eq;rw[this];rfl
end
end
end
section
open kZ
variable{O:gW}
section
variable{P:cg}{Post:Value->aO->Prop}{n:Nat}{Shun:Loc->Prop}{M:Nat->Prop}{w:aO}
theorem gu(a:Act)(d:Option Tmp)(v:Value):(a.put d v).tmps.size=a.tmps.size:=by cases d<;>simp[Act.put]
theorem put_defers(a:Act)(d:Option Tmp)(v:Value):(a.put d v).defers=a.defers:=by cases d<;>rfl
structure anp(P:cg)(M:Nat->Prop)(eT:FuncId)(aF:Act)(aD:Array Oper)(aI:Nat)(aH:List Item)(D:Nat->fc)(cv:Act):Prop where
 nn:∀n,fp (D n) cv aF
 all:aS (cq M) cv.tmps cv.tmps
 d:∀n,(D n).d=n
 fn:∀n,zY P (D n) eT
 ops:∀n,aD.all (sf (D n) aD)=true
 items:∀n,aH.all (gX (D n))=true
 dst:∀n d,(aD[aI]?).bind (·.dst)=some d->(D n).T d=false
 aQ:∀n i,(D n).T i=true->(D n).K i=true
 follows:P.follows .rangeFuncRecover=true
structure vZ(P:cg)(M:Nat->Prop)(eT:FuncId)(aF:Act)(aD:Array Oper)(aI:Nat)(aH:List Item):Prop where
 known:kY P eT
 tmps:aS (cq M) aF.tmps aF.tmps\/∃D cv,anp P M eT aF aD aI aH D cv
 defers:aF.defers=[]
 ops:fX P (.inRegion aD [])=true
 items:aH.all (fX P)=true
 dst:∃d,(aD[aI]?).bind (·.dst)=some d/\d<aF.tmps.size
def jN(O:gW)(P:cg)(Post:Value->aO->Prop)(f:FuncId)(args:Array Value)(M:Nat->Prop)(w:aO)(d:Nat)(V:Value->(Nat->Prop)->aO->Prop):Prop:=
 ∀n Shun,n+16*d<=200->Home O P M Shun w->∀eT aF aD aI aL aH csZ,vZ P M eT aF aD aI aH->
  (∀u M' w' n' bw,n'<=n+16*d->Home O P M' bw w'->(∀b,M b->M' b)->ay (cq M') u u->nY w w'->V u M' w'->
   bS P Post n' bw 0 (aZ ((base eT).at (aF.put ((aD[aI]?).bind (·.dst)) u) (.inRegion aD aL::aH)) csZ) w')->
  bS P Post n Shun 0 (aZ (Frame.enter P f args .normal) ((base eT).at aF (.inRegion aD (aI::aL)::aH)::csZ)) w
def zZ{M M':Nat->Prop}(h:∀b,M b->M' b):Ren.le (cq M) (cq M'):=⟨λ_ b k=>⟨k.1,h b k.2⟩,λb k=>h b k⟩
def vZ.rel(d:(cU P).Good){b:FuncId}{aF:Act}{aD:Array Oper}{aI:Nat}{aH:List Item}(h:vZ P M b aF aD aI aH)(l:List Nat){a:Act}(c:aS (cq M) a.tmps a.tmps)(hd:a.defers=[]):ek (cU P) (cq M) ((base b).at a (.inRegion aD l::aH)) ((base b).at a (.inRegion aD l::aH)):=
 IK d h.known c hd (by simp only[List.all_cons,Bool.and_eq_true];exact⟨h.ops,h.items⟩)
theorem vZ.mono{M':Nat->Prop}(c:∀b,M b->M' b){a:FuncId}{aF:Act}{aD:Array Oper}{aI:Nat}{aH:List Item}(h:vZ P M a aF aD aI aH):vZ P M' a aF aD aI aH:=
 ⟨h.known,h.tmps.imp (λx=>x.mono (zZ c)) (λ⟨D,d,x⟩=>⟨D,d,x.nn,x.all.mono (zZ c),x.d,x.fn,x.ops,x.items,x.dst,x.aQ,x.follows⟩),h.defers,h.ops,h.items,h.dst⟩
def ZJ{ρ:Ren}{n w':aO}(l:Behind O P M Shun w ρ n w'){aF a':Act}{d:Nat}(c:d<aF.tmps.size)(k:aS (cq M) aF.tmps aF.tmps)(f:aF.defers=[]){v:Value}(h1:aS ρ (aF.put (some d) v).tmps a'.tmps)(b:a'.defers=[]):∃u,ay ρ v u/\a'=aF.put (some d) u:=by
 have hsz:a'.tmps.size=aF.tmps.size:=by rw[<-h1.size,gu]
 obtain⟨u,i⟩:∃u,a'.tmps[d]?=some u:=⟨a'.tmps[d]'(hsz▸c),AA⟩;refine⟨u,h1.get d v u (by simp[Act.put,c]) i,?_⟩;obtain⟨m,h⟩:=a';have b:h=[]:=b;subst b;show _=(⟨aF.tmps.setIfInBounds d u,aF.defers⟩:Act);rw[f];congr 1
 apply Array.ext
 .grind
 .intro j e a;have p:j<aF.tmps.size:=AA;apply Option.some.inj;rw[<-Array.getElem?_eq_getElem e,<-Array.getElem?_eq_getElem a,Array.getElem?_setIfInBounds];by_cases o:d=j
  .grind
  .simp[o];have g:ay ρ aF.tmps[j] m[j]:=h1.get j _ _ (by grind[Act.put]) AA;rw[Array.getElem?_eq_getElem e,Array.getElem?_eq_getElem p,l.same (k.get j _ _ AA AA) g]
def anq(C:(cU P).Good)(a5:Home O P M Shun w){fr:Frame}(Z:ek (cU P) (cq M) fr fr){j:FuncId}{aF:Act}{aD:Array Oper}{aI:Nat}{aL:List Nat}{aH:List Item}{csZ:List Frame}(s:vZ P M j aF aD aI aH){gZ:aO->Value->aO->Prop}(hrun:∀m,gA (cU P) M (hO M) w m->∀T,∀c cs,∃v p,gZ m v p/\Steps (ae P true) (lone fr (c::cs) {m with tape:=T}) (lone (c.finish v) cs p))(cT:∀ρ m v p u w',gA (cU P) M (hO M) w m->gZ m v p->ay ρ v u->Behind O P M Shun w ρ p w'->bS P Post n Shun 0 (aZ ((base j).at (aF.put ((aD[aI]?).bind (·.dst)) u) (.inRegion aD aL::aH)) csZ) w'):
 bS P Post n Shun 0 (aZ fr ((base j).at aF (.inRegion aD (aI::aL)::aH)::csZ)) w:=by
 obtain⟨d,og,jA⟩:=s.dst;have IN:∀q:Act,∀m,gA (cU P) M (hO M) w m->∀T,∃z cse p,Steps (ae P true) (lone fr ([(base j).at q (.inRegion aD (aI::aL)::aH)]++[ey j]) {m with tape:=T}) (lone z (cse++[ey j]) p)/\cse=[]/\∃v,z=(base j).at (q.put (some d) v) (.inRegion aD aL::aH)/\gZ m v p:=by intro q m S T;obtain⟨v,p,h1,E⟩:=hrun m S T ((base j).at q (.inRegion aD (aI::aL)::aH)) [ey j];grind[Frame.finish_at]
 have W:(Item.inRegion aD aL::aH).all (fX P)=true:=by simp only[List.all_cons,Bool.and_eq_true];exact⟨s.ops,s.items⟩
 rcases s.tmps with ZK|⟨D,q,r⟩
 .refine Zz C a5 (f:=j) (cs0:=[(base j).at aF (.inRegion aD (aI::aL)::aH)]) (bs:=csZ) Z (.cons (s.rel C _ ZK s.defers) .nil) ⟨Y,Y⟩
   (R:=λz cse m p=>cse=[]/\∃v,z=(base j).at (aF.put (some d) v) (.inRegion aD aL::aH)/\gZ m v p) (IN aF) ?_
  rintro ρ z cse m p aP a7 w' S ⟨rfl,v,rfl,hv⟩ F A K;cases A;obtain⟨a',rfl,h1,E⟩:=IL (by rw[put_defers];exact s.defers) W F;obtain⟨u,Q,rfl⟩:=ZJ K jA ZK s.defers h1 E;grind
 .have y:=r.nn csZ.length;have h0:q.defers=[]:=by rw[<-y.defers];exact s.defers
  have N:d<q.tmps.size:=by rw[<-y.size];grind
  have dB:∀l:List Nat,(Item.inRegion aD l::aH).all (gX (D csZ.length))=true:=λl=>by rw[List.all_cons,Bool.and_eq_true];refine⟨?_,r.items _⟩;simp[gX];intro i _;cases X:aD[i]? with|none=>rfl|some o=>exact Array.all_eq_true_iff_forall_mem.1 (r.ops _) o (Array.mem_of_getElem? X)
  refine SB C r.follows (D:=D csZ.length) a5 (f:=j) (cs0:=[(base j).at q (.inRegion aD (aI::aL)::aH)]) (bs:=csZ) (g:=aZ fr ((base j).at aF (.inRegion aD (aI::aL)::aH)::csZ)) (by rw[r.d];grind) (.under _ (.here (y.SC _ _) ⟨(r.fn _).bg (dB _) _,λ_ ops i rest k e o X d' gz=>?_⟩ _ (r.d _).symm) _ _) Z (.cons (s.rel C _ r.all h0) .nil) ⟨Y,Y⟩
   (R:=λz cse m p=>cse=[]/\∃v,z=(base j).at (q.put (some d) v) (.inRegion aD aL::aH)/\gZ m v p) (IN q) ?_
  .have e:Item.inRegion aD (aI::aL)::aH=.inRegion ops (i::rest)::k:=e;cases e;exact r.dst _ d' AA
  rintro ρ z cse m p aP a7 w' g' S ⟨rfl,v,rfl,hv⟩ F A K V;cases A;obtain⟨a',rfl,h1,E⟩:=IL Gh W F;obtain⟨u,Q,rfl⟩:=ZJ K N r.all h0 h1 E;have hlen:(D csZ.length).d=csZ.length:=r.d _;have key:∃U,g'=aZ U csZ/\eL (D csZ.length) ((base j).at (q.put (some d) u) (.inRegion aD aL::aH)) U:=by generalize Bc:aZ ((base j).at (q.put (some d) u) (.inRegion aD aL::aH)) ([]++csZ)=g0 at V;cases V with|same g hl=>grind[aZ]|gt h v=>cases Bc;exact⟨_,Y,h⟩|under a h=>cases Bc;have:=h.lt;grind
  obtain⟨U,rfl,L⟩:=key;obtain⟨b,rfl,B⟩:=eL.act L;have e:b=aF.put (some d) u:=by
   obtain⟨t,ds⟩:=b;have e1:ds=aF.defers:=B.defers.trans (by rw[put_defers,y.defers]);subst e1;show _=(⟨aF.tmps.setIfInBounds d u,aF.defers⟩:Act);congr 1
   have hs:t.size=(aF.tmps.setIfInBounds d u).size:=by rw[Array.size_setIfInBounds,y.size,<-gu q (some d) u];exact B.size
   refine Array.ext_getElem? λi=>?_;cases J:(D csZ.length).T i with
   |false=>have H:t[i]?=(q.tmps.setIfInBounds d u)[i]?:=B.same i J;rw[H,Array.getElem?_setIfInBounds,Array.getElem?_setIfInBounds,y.size,y.same i J]
   |true=>
    have hK:=r.aQ _ i J;have H:t[i]?=(D csZ.length).V i:=B.kept i hK;have I:d≠i:=λx=>by have:=r.dst csZ.length d og;grind
    rw[H,Array.getElem?_setIfInBounds,if_neg I,y.kept i hK]
  grind
def wp_move(e:(cU P).Good)(m:Home O P M Shun w){f:FuncId}(j:kY P f){a:Act}(l:aS (cq M) a.tmps a.tmps)(hd:a.defers=[]){k k':List Item}(hk:k.all (fX P)=true)(t:k'.all (fX P)=true){cs:List Frame}{Q:aO->Act->aO->Prop}(hrun:∀c,gA (cU P) M (hO M) w c->∀T,∀(b:Frame)(cs:List Frame),∃a1 w1,Q c a1 w1/\a1.defers=[]/\Steps (ae P true) (lone (b.at a k) cs {c with tape:=T}) (lone (b.at a1 k') cs w1))(s:∀ρ c a1 w1 a' w',gA (cU P) M (hO M) w c->Q c a1 w1->aS ρ a1.tmps a'.tmps->a'.defers=[]->Behind O P M Shun w ρ w1 w'->bS P Post n Shun 0 (aZ ((base f).at a' k') cs) w'):
 bS P Post n Shun 0 (aZ ((base f).at a k) cs) w:=by
 refine Zz e m (f:=f) (cs0:=[]) (bs:=cs) (IK e j l hd hk) .nil ⟨Y,Y⟩ (R:=λg cse c h=>cse=[]/\∃a1,g=(base f).at a1 k'/\a1.defers=[]/\Q c a1 h) (λc i T=>?_) ?_
 .obtain⟨a1,w1,h1,r,h3⟩:=hrun c i T (base f) [ey f];grind
 .rintro ρ g cse c h u v w' i ⟨rfl,a1,rfl,o,hq⟩ p d q;cases d;grind[IL]
end
end
variable{gV:Code}{dG:Func}
section
variable{O:gW}
def ea(M:Nat->Prop)(w w':aO):Prop:=∀b c e fr,M b->w.heap[b]?=some (.cells c e fr)->w'.heap[b]?=some (.cells c e fr)
theorem ea.refl(M:Nat->Prop)(w:aO):ea M w w:=λ_ _ _ _ _ h=>h
theorem ea.trans{M M':Nat->Prop}{a b c:aO}(h:ea M a b)(g:∀b,M b->M' b)(k:ea M' b c):ea M a c:=λx c e fr d f=>k x c e fr (g x d) (h x c e fr d f)
def ea.L6{M:Nat->Prop}{w w':aO}(h:∀b,M b->w'.heap[b]?=w.heap[b]?):ea M w w':=λb _ _ _ a e=>(h b a).trans e
theorem ea.cell{M:Nat->Prop}{w w':aO}(h:ea M w w'){a:Addr}{v:Value}(i:M a.block)(g:w.cell? a=some v):w'.cell? a=some v:=by obtain⟨c,e,fr,f,d,b⟩:=tx g;exact nE (h _ _ _ _ i f) d b
section
variable{P:cg}{Post:Value->aO->Prop}{n:Nat}{Shun:Loc->Prop}{M:Nat->Prop}{w:aO}
def ea.carry{w':aO}(h:ea M w w')(c:Home O P M Shun w):Carry (cq M) w w':=by
 rintro a a' v ⟨⟨h1,hd⟩,d,h3⟩ b;have e:a=a':=by obtain⟨x,y,z⟩:=a';obtain⟨p,q,r⟩:=a;grind
 subst e;exact⟨v,h.cell hd b,c.cell hd b⟩
def SE{ρ:Ren}(h1:∀a b c,ρ.rel a b->ρ.rel a c->b=c){x y:Array Value}(h:aS ρ x y)(d:aS ρ x x):y=x:=by
 apply Array.ext
 .exact h.size.symm
 .intro i hi e;exact(St h1 (d.get i x[i] x[i] AA AA) (h.get i x[i] y[i] AA AA)).symm
def Behind.anv{ρ:Ren}{m l w':aO}(h:Behind O P M Shun w ρ l w')(n:Home O P M Shun w)(B:gA (cU P) M (hO M) w m)(hk:∀b c e z,M b->m.heap[b]?=some (.cells c e z)->l.heap[b]?=some (.cells c e z)):ea M w w':=by
 intro b c e fr a i;obtain⟨q,u,C⟩:=B.cells n.cl a i;have x:=C a;subst x;have y:=hk b c e _ a u;obtain⟨S,j⟩:=h.rel;obtain⟨o,o',g,f,r⟩:=j.obj b b (h.le.1 b b ⟨Y,a⟩);rw[y]at g;cases g;cases r with
 |@cells _ c' _ _ A t s=>
  have v:A=q:=s.2 Y;subst v;obtain⟨D,k,d⟩:=n.cl b a;rw[i]at k;cases k;rcases d with d|d
  .cases d with|cells _ p _=>rw[SE j.one t (p.mono h.le)]at f;exact f
  .exact d.elim
def anw{ρ:Ren}{r w':aO}(g:Behind O P M Shun w ρ r w'){a a':Act}(l:aS (cq M) a.tmps a.tmps)(hd:a.defers=[])(i:a'.defers=[]){dst:Option Tmp}{v:Value}(h:aS ρ (a.put dst v).tmps a'.tmps)(o:∀d,dst=some d->d<a.tmps.size):
 ∃u,a'=a.put dst u/\(dst≠none->ay ρ v u):=by
 obtain⟨b,n⟩:=a';have i:n=[]:=i;subst i;obtain⟨S,q⟩:=g.rel;cases dst with
 |none=>refine⟨undef,?_,AA⟩;have e:b=a.tmps:=SE q.one h (l.mono g.le);subst e;obtain⟨t,ds⟩:=a;have hd:ds=[]:=hd;subst hd;rfl
 |some d=>
  have c:=o d Y;have hsz:b.size=a.tmps.size:=by have:=h.size;grind[gu]
  have p:b[d]?=some (b[d]'(hsz▸c)):=AA;refine⟨b[d]'(hsz▸c),?_,λ_=>h.get d _ _ (by simp[Act.put,c]) p⟩;show _=(⟨a.tmps.setIfInBounds d _,a.defers⟩:Act);rw[hd];congr 1
  apply Array.ext
  .grind
  .intro j k f;have x:j<a.tmps.size:=AA;apply Option.some.inj;rw[<-Array.getElem?_eq_getElem k,<-Array.getElem?_eq_getElem f,Array.getElem?_setIfInBounds];by_cases s:d=j
   .grind
   .simp[s];have m:ay ρ a.tmps[j] b[j]:=h.get j _ _ (by grind[Act.put]) AA;rw[Array.getElem?_eq_getElem k,Array.getElem?_eq_getElem x,g.same (l.get j _ _ AA AA) m]
variable{f:FuncId}{a:Act}{ops:Array Oper}{i:Nat}{rest:List Nat}{k:List Item}{cs:List Frame}{o:Oper}
def anx(t:(cU P).Good)(z:Home O P M Shun w)(s:kY P f)(l:aS (cq M) a.tmps a.tmps)(hd:a.defers=[])(hk:(Item.inRegion ops []::k).all (fX P)=true)(r:ops[i]?=some o)(p:Region.wanted o (yielded ops a.tmps)=true)(m:∀d,o.dst=some d->d<a.tmps.size){gZ:aO->Value->aO->Prop}(hrun:∀c,gA (cU P) M (hO M) w c->∀T,∃v w1,gZ c v w1/\((execOp a.eval o).run (ae P true) {c with tape:=T}=.ok (.value v) w1\/((execOp a.eval o).run (ae P true) {c with tape:=T}=.ok .skip w1/\v=undef)))(y:∀ρ c v w1 u w',gA (cU P) M (hO M) w c->gZ c v w1->(o.dst≠none->ay ρ v u)->Behind O P M Shun w ρ w1 w'->aS (cq (px ρ)) (a.put o.dst u).tmps (a.put o.dst u).tmps->bS P Post n Shun 0 (aZ ((base f).at (a.put o.dst u) (.inRegion ops rest::k)) cs) w'):
 bS P Post n Shun 0 (aZ ((base f).at a (.inRegion ops (i::rest)::k)) cs) w:=by
 simp only[List.all_cons,Bool.and_eq_true]at hk;refine wp_move t z s l hd (k:=.inRegion ops (i::rest)::k) (k':=.inRegion ops rest::k) IZ IZ (Q:=λc a1 w1=>∃v,a1=a.put o.dst v/\gZ c v w1) (λc j T b cs=>?_) ?_
 .obtain⟨v,w1,e,g⟩:=hrun c j T;refine⟨a.put o.dst v,w1,⟨v,Y,e⟩,Gh,.one (step_lone_go ?_)⟩;rw[stepG_op r p];have A:∀v,(b.at a (.inRegion ops (i::rest)::k)).finish v=b.at (a.put o.dst v) (.inRegion ops rest::k):=by grind[Frame.finish_at]
  rcases g with g|⟨g,rfl⟩
  .simp_all[stepG.apply]
  simp_all[stepG.apply]
 .rintro ρ c a1 w1 a' w' j ⟨v,rfl,e⟩ h1 x h;obtain⟨u,rfl,q⟩:=anw h l hd x h1 m;exact y ρ c v w1 u w' j e q h (h.all h1)
def anz(A:(cU P).Good)(m:Home O P M Shun w)(x:kY P f)(z:aS (cq M) a.tmps a.tmps)(hd:a.defers=[])(hk:(Item.inRegion ops []::k).all (fX P)=true)(t:ops[i]?=some o)(q:Region.wanted o (yielded ops a.tmps)=true){d:Tmp}(p:o.dst=some d/\d<a.tmps.size){v:Value}(r:ay (cq M) v v)(hrun:∀c,gA (cU P) M (hO M) w c->∀T,(execOp a.eval o).run (ae P true) {c with tape:=T}=.ok (.value v) {c with tape:=T})(B:∀M' w',(∀b,M b->M' b)->Home O P M' Shun w'->nY w w'->ea M w w'->aS (cq M') (a.put (some d) v).tmps (a.put (some d) v).tmps->bS P Post n Shun 0 (aZ ((base f).at (a.put (some d) v) (.inRegion ops rest::k)) cs) w'):
 bS P Post n Shun 0 (aZ ((base f).at a (.inRegion ops (i::rest)::k)) cs) w:=by
 refine anx A m x z hd hk t q AA (gZ:=λc h w1=>h=v/\∃T,w1={c with tape:=T}) (λc l T=>⟨v,_,⟨Y,T,Y⟩,AA⟩) ?_;rintro ρ c h w1 u w' l ⟨rfl,T,rfl⟩ s g j;have e:u=h:=g.same r (s AA);subst e;rw[p.1]at j⊢;exact B (px ρ) w' (λb y=>g.mem y) g.fF g.since (g.anv m l AA) j
def ZL{d:Nat}{g:FuncId}{args:Array Operand}{ats:Array TypeId}(c:o.op=.call {callee:=.value (.func g),args,argTypes:=ats})(hg:P.funcs[g]?=some dG)(l:(dG.name== "runtime.NumGoroutine")=false)(m:dG.body=some gV){vs:Array Value}(p:args.map a.eval=vs){V:Value->(Nat->Prop)->aO->Prop}(hn:n+16*d<=200)(A:Home O P M Shun w)(t:vZ P M f a ops i k)(s:ops[i]?=some o)(r:Region.wanted o (yielded ops a.tmps)=true)(q:∀k,jN O P Post g vs M (w.at k) d V)(y:∀u M' w' e h,e<=n+16*d->Home O P M' h w'->(∀b,M b->M' b)->ay (cq M') u u->nY w w'->V u M' w'->bS P Post e h 0 (aZ ((base f).at (a.put o.dst u) (.inRegion ops rest::k)) cs) w'):
 bS P Post n Shun 0 (aZ ((base f).at a (.inRegion ops (i::rest)::k)) cs) w:=by
 refine zU (nX Y (w1:=w) (es:=#[]) (λk'=>(stepG_enter s r (by simp[base]) (iE.rh (b:=base f) c hg l m p _).1).trans (congrArg (λes=>GStep.go _ _ es) (iE.rh (b:=base f) c hg l m p _).2)) A_ J1 (.stop λk'=>?_));refine q k' n Shun hn (A.at _) f a ops i rest k cs t (λu M' w' e h h1 x h3 v j z=>?_);have:=y u M' w' e h h1 x h3 v ⟨j.size,j.later,j.output,j.tape⟩ z;grind
theorem count_set{au:Array Bool}{i:Nat}(h:au.getD i true=false):(au.setIfInBounds i true).toList.count false+1=au.toList.count false:=by
 have hi:i<au.size:=by grind
 have a:au[i]=false:=Br;grind
def ZN(g:P.follows .mixedOrders=true){I:Array Bool->Act->(Nat->Prop)->aO->Nat->(Loc->Prop)->Prop}(cQ:∀au a M w n Shun k,I au a M w n Shun->I au a M (w.at k) n Shun)(hstep:∀au a M w n Shun i o rest,I au a M w n Shun->au.getD i true=false->ops[i]?=some o->(∀e∈o.after,Region.binds .any e=true->au.getD e.on false=true)->(∀a' M' w' b d,I (au.setIfInBounds i true) a' M' w' b d->bS P Post b d 0 (aZ ((base f).at a' (.inRegion ops rest::k)) cs) w')->bS P Post n Shun 0 (aZ ((base f).at a (.inRegion ops (i::rest)::k)) cs) w)(h:∀au a M w n Shun,I au a M w n Shun->Region.ready .any ops au=[]->bS P Post n Shun 0 (aZ ((base f).at a (.inRegion ops []::k)) cs) w){id:Nat}(h0:I (Array.replicate ops.size false) a M w n Shun):bS P Post n Shun 0 (aZ ((base f).at a (.code (.region id ops true)::k)) cs) w:=by
 have key:∀(m t:Nat)(au:Array Bool)(a:Act)(M:Nat->Prop)(w:aO)(n:Nat)(Shun:Loc->Prop),au.toList.count false<=m->I au a M w n Shun->bS P Post n Shun 0 (aZ ((base f).at a (.inRegion ops (Region.linearise.go .any ops m t au [])::k)) cs) w:=by
  intro m;induction m with
  |zero=>intro t au a M w n Shun l c;refine h au a M w n Shun c ?_;cases j:Region.ready .any ops au with|nil=>rfl|cons x xs=>have r:x∈Region.ready .any ops au:=AA;grind[count_set,mem_ready]
  |succ m q=>
   intro t au a M w n Shun l c;simp only[Region.linearise.go];change bS P Post n Shun 0 (aZ ((base f).at a (.inRegion ops (match(Region.ready .any ops au)[t % (Region.ready .any ops au).length]? with
    |some i=>Region.linearise.go .any ops m (t / (Region.ready .any ops au).length) (au.setIfInBounds i true) [i]
    |none=>[].reverse)::k)) cs) w
   cases hi:(Region.ready .any ops au)[t % (Region.ready .any ops au).length]? with
   |none=>
    have p:Region.ready .any ops au=[]:=by cases j:Region.ready .any ops au with|nil=>rfl|cons x xs=>grind[Nat.mod_lt]
    grind
   |some i=>simp only[];rw[linearise_go_acc,List.reverse_singleton,List.singleton_append];obtain⟨h1,o,s,h3⟩:=mem_ready.1 (List.mem_of_getElem? hi);grind[count_set]
 refine zU (eB.mk Y λk'=>⟨_,_,_,stepG_region_draw,A_,Nat.le_refl _,.stop λk''=>?_⟩);simp only[Region.schedule,g,Bool.true_or,if_true];exact key ops.size _ _ a M _ n Shun A_ (AA:I _ a M (w.at k'') n Shun)
end
end
variable{x y:Code}
section
variable{O:gW}
def jb(R:Act->aO->Prop)(e:Exit)(a:Act)(w:aO):Prop:=e=.normal/\R a w
section
variable{P:cg}
def IP{ops:Array Oper}{R:Act->aO->Prop}(l2:List Nat)(l:List Nat):∀(a:Act)(w:aO),wpOps P ops (jb R) l a w->∀(b:Frame)(k:List Item)(cs:List Frame),
 ∃a' w',R a' w'/\Steps P (lone (b.at a (.inRegion ops (l++l2)::k)) cs w) (lone (b.at a' (.inRegion ops l2::k)) cs w'):=by
 induction l with
 |nil=>exact λa w h b k cs=>⟨a,w,h.2,.refl _ _⟩
 |cons i rest j=>
  intro a w h b k cs;simp[wpOps]at h;simp;cases m:ops[i]? with
  |none=>simp[m]at h;obtain⟨a',w',hq,c⟩:=j a w h b k cs;have hs:=step_op_skip (P:=P) (b:=b) (a:=a) (k:=k) (cs:=cs) (w:=w) (ops:=ops) (i:=i) (rest:=rest++l2) AA;simp[m,Act.put]at hs;exact⟨a',w',hq,.head hs c⟩
  |some o=>
   simp[m]at h;by_cases s:Region.wanted o (yielded ops a.tmps)=true
   .simp[s]at h;rcases h with h|⟨y,r,n,hq⟩
    case inr=>cases hq.1
    simp[Oper.wp,Oper.upon]at h;have hg:=stepG_op (P:=P) (b:=b) (k:=k) (cs:=cs) (w:=w) (rest:=rest++l2) m s;have z:∀v,(b.at a (.inRegion ops (i::(rest++l2))::k)).finish v=b.at (a.put o.dst v) (.inRegion ops (rest++l2)::k):=by grind[Frame.finish_at]
    split at h
    .rename_i v w' p;obtain⟨a',w'',hq,c⟩:=j _ _ h b k cs;refine⟨a',w'',hq,.head (step_lone_go ?_) c⟩;simp_all[stepG.apply]
    .rename_i w' p;obtain⟨a',w'',hq,c⟩:=j _ _ h b k cs;refine⟨a',w'',hq,.head (step_lone_go ?_) c⟩;simp_all[stepG.apply]
    .rename_i d w' p;obtain⟨a',w'',hq,c⟩:=j _ _ h b k cs;refine⟨a',w'',hq,.head (step_lone_go ?_) c⟩;have:({b.at a (.inRegion ops (i::(rest++l2))::k)with defers:=d::a.defers}:Frame).finish undef=
      b.at ({a with defers:=d::a.defers}.put o.dst undef) (.inRegion ops (rest++l2)::k):=by
      have:=Frame.finish_at b {a with defers:=d::a.defers} ops i (rest++l2) k undef;rw[m]at this;exact this
     rw[hg];simp only[stepG.apply,Sem.runT_eq,p,GStep.bare_after];exact congrArg (λfr=>GStep.go {frame:=fr,callers:=cs,status:=.running,dying:=none} w') this
    .rename_i f args w' p;obtain⟨e,w'',fr,q,u,_,x⟩:=h (b.at a (.inRegion ops (i::(rest++l2))::k)::cs);have t:step P (lone (b.at a (.inRegion ops (i::(rest++l2))::k)) cs w)=
      .next (lone (Frame.enter P f args .normal) (b.at a (.inRegion ops (i::(rest++l2))::k)::cs) w'):=
      step_lone_go (by simp_all[stepG.apply,Frame.at])
     cases e with
     |returned v=>obtain⟨a',g,hq,c⟩:=j _ _ q b k cs;refine⟨a',g,hq,.head t (Steps.trans u (.head ?_ c))⟩;grind[step_leave_returned]
     |panicked chain=>cases q.1
     |outgrown=>obtain⟨r,n,hq⟩:=q;cases hq.1
    .rename_i row args w' p;obtain⟨v,w'',q,u⟩:=h (b.at a (.inRegion ops (i::(rest++l2))::k)) cs;have t:step P (lone (b.at a (.inRegion ops (i::(rest++l2))::k)) cs w)=
      .next (lone (Frame.ofRow P row args .normal) (b.at a (.inRegion ops (i::(rest++l2))::k)::cs) w'):=
      step_lone_go (by simp_all[stepG.apply,Frame.at])
     obtain⟨a',g,hq,c⟩:=j _ _ q b k cs;refine⟨a',g,hq,.head t (Steps.trans ?_ c)⟩;grind
    .cases h.1
    grind
   .simp[s]at h;obtain⟨a',w',hq,c⟩:=j _ _ h b k cs;have hs:=step_op_skip (P:=P) (b:=b) (a:=a) (k:=k) (cs:=cs) (w:=w) (ops:=ops) (i:=i) (rest:=rest++l2)
     AA
    simp[m]at hs;exact⟨a',w',hq,.head hs c⟩
def bK(P:cg)(ks ks':List Item)(Q:Act->aO->Prop)(a:Act)(w:aO):Prop:=
 ∀(b:Frame)(cs:List Frame),∃a1 w1,Q a1 w1/\Steps P (lone (b.at a ks) cs w) (lone (b.at a1 ks') cs w1)
variable{ks ks':List Item}{Q:Act->aO->Prop}{a:Act}{w:aO}
theorem j1(h:Q a w):bK P ks ks Q a w:=λ_ _=>⟨a,w,h,.refl _ _⟩
def v_{wa:List Item}{w1:aO}(hs:∀(b:Frame)(cs:List Frame),step P (lone (b.at a ks) cs w)=.next (lone (b.at a wa) cs w1))(h:bK P wa ks' Q a w1):bK P ks ks' Q a w:=λb cs=>by obtain⟨a1,c,h1,d⟩:=h b cs;exact⟨a1,c,h1,.head (hs b cs) d⟩
theorem bq(h:bK P (.code x:: .code y::ks) ks' Q a w):bK P (.code (.seq x y)::ks) ks' Q a w:=v_ (λ_ _=>step_seq) h
def oM{id:Nat}(h:bK P (.code c:: .inBlock id::ks) ks' Q a w):bK P (.code (.block id c)::ks) ks' Q a w:=v_ (λ_ _=>step_block) h
def xF{id:Nat}(h:bK P ks ks' Q a w):bK P (.inBlock id::ks) ks' Q a w:=v_ (λ_ _=>step_inBlock) h
def Ca(h:bK P (.code c:: .inLoop c::ks) ks' Q a w):bK P (.code (.loop c)::ks) ks' Q a w:=v_ (λ_ _=>step_loop) h
def Cb(h:bK P (.code c:: .inLoop c::ks) ks' Q a w):bK P (.inLoop c::ks) ks' Q a w:=v_ (λ_ _=>step_inLoop) h
def g3{c:Operand}{t:Bool}(ht:a.eval c=.bool t)(h:bK P (.code (if t then x else y)::ks) ks' Q a w):bK P (.code (.cond c x y)::ks) ks' Q a w:=v_ (λb cs=>by rw[step_cond ht]) h
def lU(h:bK P ks ks' Q a w):bK P (.code .skip::ks) ks' Q a w:=v_ (λ_ _=>step_skip) h
def Cc{id:Nat}{wa:List Item}(b:exitTo id ks=some wa)(h:bK P wa ks' Q a w):bK P (.code (.exit id)::ks) ks' Q a w:=v_ (λ_ _=>step_exit b) h
def uo{id:Nat}{ops:Array Oper}(h:bK P (.inRegion ops (List.range' 0 ops.size)::ks) ks' Q a w):bK P (.code (.region id ops false)::ks) ks' Q a w:=v_ (λb cs=>by rw[step_region,List.range_eq_range']) h
theorem sg{ops:Array Oper}(h:bK P ks ks' Q a w):bK P (.inRegion ops []::ks) ks' Q a w:=v_ (λ_ _=>step_region_end) h
def Cd(h:c.wp P (jb (bK P ks ks' Q)) a w):bK P (.code c::ks) ks' Q a w:=λb cs=>by obtain⟨e,a1,w1,⟨rfl,hq⟩,f⟩:=h b ks cs;obtain⟨i,d,h1,g⟩:=hq b cs;exact⟨i,d,h1,Steps.trans f g⟩
def anA{ops:Array Oper}{Q:Exit->Act->aO->Prop}(l:List Oper):∀k,(∀j(h:j<l.length),ops[k+j]?=some l[j])->wpOps P ops Q (List.range' k l.length)=wpList P ops Q l:=by induction l with|nil=>grind[wpOps,wpList]|cons o l a=>intro k h;have h0:ops[k]?=some o:=h 0 A_;have ih':=a (k+1) (λj b=>by have:=h (j+1) AA;grind);simp_all[List.range'_succ,wpOps,wpList]
def IQ{ops:Array Oper}(m:Nat){k len:Nat}(f:m<=len)(g:k+len<=ops.size)(h:wpList P ops (jb (bK P (.inRegion ops (List.range' (k+m) (len-m))::ks) ks' Q)) ((ops.toList.drop k).take m) a w):bK P (.inRegion ops (List.range' k len)::ks) ks' Q a w:=λb cs=>by
 have hlen:((ops.toList.drop k).take m).length=m:=AA;have c:wpOps P ops (jb (bK P (.inRegion ops (List.range' (k+m) (len-m))::ks) ks' Q)) (List.range' k m) a w:=by
  have:=anA (P:=P) (ops:=ops) (Q:=jb (bK P (.inRegion ops (List.range' (k+m) (len-m))::ks) ks' Q)) ((ops.toList.drop k).take m) k (λj i=>by
   grind)
  simp_all
 have d:List.range' k len=List.range' k m++List.range' (k+m) (len-m):=by simp_all
 obtain⟨a1,w1,h1,n⟩:=IP (List.range' (k+m) (len-m)) (List.range' k m) a w c b ks cs;obtain⟨o,e,h3,l⟩:=h1 b cs;grind[Steps.trans]
def uq(P:cg)(fn:Func)(ks:List Item)(gZ:Value->aO->Prop)(a:Act)(w:aO):Prop:=
 ∀(f:FuncId)(cs:List Frame),P.funcs[f]?=some fn->∃v w1 fr,gZ v w1/\Steps P (lone ((base f).at a ks) cs w) (lone fr cs w1)/\fr.leaving P w1 (.returned v)
def FP{fn:Func}{gZ:Value->aO->Prop}(h:bK P ks ks' (uq P fn ks' gZ) a w):uq P fn ks gZ a w:=λf cs b=>by obtain⟨a1,w1,h1,i⟩:=h (base f) cs;obtain⟨v,c,fr,g,e,d⟩:=h1 f cs b;grind[Steps.trans]
def SG{fn:Func}{gZ:Value->aO->Prop}{v:Value}(hd:a.defers=[])(b:(results fn a.tmps).run P w=.ok v w)(h:gZ v w):uq P fn (.code .ret::ks) gZ a w:=λf cs c=>
 ⟨v,w,_,h,.one step_ret,Y,hd,Y,fn,c,b⟩
def anB{fn:Func}{gZ:Value->aO->Prop}(h:c.wp P (bodyPost P fn λe w=>∃v,e=.returned v/\gZ v w) a w):uq P fn [.code c] gZ a w:=λf cs i=>by
 obtain⟨e,a1,w1,hq,g⟩:=h (base f) [] cs;cases e with
 |normal=>obtain⟨hd,v,b,u,e,d⟩:=hq;cases e;exact⟨v,w1,_,d,Steps.trans g (.one step_end),Y,hd,Y,fn,i,b⟩
 |ret=>obtain⟨hd,v,b,u,e,d⟩:=hq;cases e;obtain⟨todo,hs⟩:=g;exact⟨v,w1,_,d,hs,Y,hd,Y,fn,i,b⟩
 |panic chain=>obtain⟨_,u,e,_⟩:=hq;cases e
 |exit id=>exact hq.elim
 |goto l=>exact hq.elim
 |outgrown=>obtain⟨u,e,_⟩:=hq;cases e
end
section
variable{P:cg}{Post:Value->aO->Prop}{n:Nat}{Shun:Loc->Prop}{M:Nat->Prop}{w:aO}{f:FuncId}{a:Act}{k k':List Item}{cs:List Frame}
def ZO(g:(cU P).Good)(l:Home O P M Shun w)(d:kY P f)(e:aS (cq M) a.tmps a.tmps)(hd:a.defers=[])(hk:k.all (fX P)=true)(i:k'.all (fX P)=true){Q:aO->Act->aO->Prop}(hrun:∀c,gA (cU P) M (hO M) w c->∀T,bK (ae P true) k k' (λa1 w1=>a1.defers=[]/\Q c a1 w1) a {c with tape:=T})(h:∀ρ c a1 w1 a' w',gA (cU P) M (hO M) w c->Q c a1 w1->aS ρ a1.tmps a'.tmps->a'.defers=[]->Behind O P M Shun w ρ w1 w'->bS P Post n Shun 0 (aZ ((base f).at a' k') cs) w'):
 bS P Post n Shun 0 (aZ ((base f).at a k) cs) w:=
 wp_move g l d e hd hk i (λc j T b cs=>by
  obtain⟨a1,w1,⟨h1,m⟩,h3⟩:=hrun c j T b cs;grind) h
def anC(g:(cU P).Good)(s:Home O P M Shun w){fn:Func}(j:P.funcs[f]?=some fn)(i:hX P true fn=true)(m:fn.body=some gV)(o:aS (cq M) a.tmps a.tmps)(hd:a.defers=[])(hk:k.all (fX P)=true){d:FuncId}{aF:Act}{aD:Array Oper}{aI:Nat}{aL:List Nat}{aH:List Item}{csZ:List Frame}(l:vZ P M d aF aD aI aH){gZ:aO->Value->aO->Prop}(hrun:∀b,gA (cU P) M (hO M) w b->∀T,uq (ae P true) fn k (gZ b) a {b with tape:=T})(q:∀ρ b v h u w',gA (cU P) M (hO M) w b->gZ b v h->ay ρ v u->Behind O P M Shun w ρ h w'->bS P Post n Shun 0 (aZ ((base d).at (aF.put ((aD[aI]?).bind (·.dst)) u) (.inRegion aD aL::aH)) csZ) w'):
 bS P Post n Shun 0 (aZ ((base f).at a k) ((base d).at aF (.inRegion aD (aI::aL)::aH)::csZ)) w:=by
 have e:(ae P true).funcs[f]?=some fn:=a6 j i;refine anq g s (IK g ⟨fn,gV,e,m⟩ o hd hk) l (gZ:=gZ) (λb r T c cs=>?_) q;obtain⟨v,w1,fr,h1,p,h3⟩:=hrun b r T f (c::cs) e;exact⟨v,w1,h1,Steps.trans p (.one (step_leave_returned h3))⟩
def FQ{fn:Func}(b:P.funcs[f]?=some fn)(a:hX P true fn=true)(c:fn.body=some gV):kY P f:=⟨fn,gV,a6 b a,c⟩
end
end
section
variable{O:gW}
def ZP(G:Value->(Nat->Prop)->aO->Prop):Prop:=∀v M w M' w',Carry (cq M) w w'->ay (cq M) v v->(∀b,M b->M' b)->ea M w w'->G v M w->G v M' w'
structure si(O:gW)(P:cg)(bs:List (Nat×Value))(dd:Nat->Nat)(m N:Nat)(G:Nat->Value->(Nat->Prop)->aO->Prop)(du:Nat)(aX:Nat->Prop)(w0:aO)(g n0 tf:Nat)(au:Array Bool)(a:Act)(M:Nat->Prop)(w:aO)(n:Nat)(Shun:Loc->Prop):Prop where
 fF:Home O P M Shun w
 len:au.size=du
 size:a.tmps.size=N
 defers:a.defers=[]
 all:aS (cq M) a.tmps a.tmps
 sub:∀b,aX b->M b
 keep:ea aX w0 w
 since:nY w0 w
 base:∀p∈bs,a.tmps[p.1]?=some p.2
 facts:∀j,j<m->au.getD j false=true->∃v,a.tmps[dd j]?=some v/\G j v M w
 most:n<=tf/\(au.getD g false=false->n<=n0)
section
variable{P:cg}{bs:List (Nat×Value)}{dd:Nat->Nat}{m N du:Nat}{G:Nat->Value->(Nat->Prop)->aO->Prop}{aX:Nat->Prop}{w0:aO}{g n0 tf:Nat}{au:Array Bool}{a:Act}{M:Nat->Prop}{w:aO}{n:Nat}{Shun:Loc->Prop}
def si.start{Shun:Loc->Prop}(d:Home O P aX Shun w0)(hs:a.tmps.size=N)(hd:a.defers=[])(c:aS (cq aX) a.tmps a.tmps)(b:∀p∈bs,a.tmps[p.1]?=some p.2)(hn:n<=tf/\n<=n0):si O P bs dd m N G du aX w0 g n0 tf (Array.replicate du false) a aX w0 n Shun:=
 ⟨d,A_,hs,hd,c,λ_ h=>h,ea.refl _ _,nY.refl _,b,λj _ h=>by
  simp_all[Array.getD],hn.1,λ_=>hn.2⟩
theorem si.at(e:∀j v M w k,G j v M w->G j v M (w.at k))(k:Nat)(h:si O P bs dd m N G du aX w0 g n0 tf au a M w n Shun):si O P bs dd m N G du aX w0 g n0 tf au a M (w.at k) n Shun:=
 ⟨(h.fF.at _),h.len,h.size,h.defers,h.all,h.sub,h.keep,⟨h.since.size,h.since.later,h.since.output,h.since.tape⟩,h.base,λj h1 b=>by
  obtain⟨v,d,c⟩:=h.facts j h1 b;grind,h.most⟩
theorem si.eval(h:si O P bs dd m N G du aX w0 g n0 tf au a M w n Shun){t:Nat}{v:Value}(b:(t,v)∈bs):a.eval (.tmp t)=v:=by have:=h.base _ b;simp[Act.eval,this]
theorem rk{au:Array Bool}{i j:Nat}(hi:i<au.size):(au.setIfInBounds i true).getD j false=true↔j=i\/au.getD j false=true:=by
 rcases Nat.lt_or_ge j au.size with x|x
 .simp only[Array.getD,Array.size_setIfInBounds,x,dif_pos,Array.getInternal_eq_getElem,Array.getElem_setIfInBounds];grind
 grind
theorem si.step(h:si O P bs dd m N G du aX w0 g n0 tf au a M w n Shun){j:Nat}{u:Value}{M':Nat->Prop}{w':aO}{c:Nat}{o:Loc->Prop}(t:j<m/\j<du/\dd j<N)(D:∀p∈bs,dd j≠p.1)(x:∀i,i<m->i≠j->dd j≠dd i)(z:∀i,i<m->ZP (G i))(B:Home O P M' o w')(d:∀b,M b->M' b)(hk:ea M w w')(hs:nY w w')(s:ay (cq M') u u)(C:G j u M' w')(hn:c<=tf/\(j≠g->c<=n)):si O P bs dd m N G du aX w0 g n0 tf (au.setIfInBounds j true) (a.put (some (dd j)) u) M' w' c o:=by
 have A:aS (cq M') a.tmps a.tmps:=h.all.mono (zZ d);refine⟨B,by simp[h.len],H7,H4,?_,λb y=>d b (h.sub b y),h.keep.trans h.sub hk,h.since.trans hs,λp k=>?_,λi hi l=>?_,hn.1,λl=>?_⟩
 .exact A.set s _
 .have:=h.base p k;simp[Act.put,D p k];grind
 .by_cases e:i=j
  .subst e;exact⟨u,by simp[Act.put,h.size,t.2.2],C⟩
  .have q:au.getD i false=true:=((rk Hh).1 l).resolve_left e;obtain⟨v,f,r⟩:=h.facts i hi q;refine⟨v,?_,z i hi v M w M' w' (hk.carry h.fF) ?_ d hk r⟩
   .simp_all[Act.put]
   .exact h.all.get _ _ _ f f
 .by_cases e:j=g
  .have:=(rk (au:=au) (i:=j) (j:=g) Hh).2 (.inl e.symm);grind
  .refine Nat.le_trans (hn.2 e) (h.most.2 ?_);simp_all
theorem xG{o:Oper}(h:o.guard=none)(y:Nat->Option Bool):Region.wanted o y=true:=by grind[Region.wanted]
variable{Post:Value->aO->Prop}{f:FuncId}{ops:Array Oper}{rest:List Nat}{k:List Item}{cs:List Frame}{o:Oper}{j:Nat}
def si.val(A:(cU P).Good)(z:kY P f)(hk:(Item.inRegion ops []::k).all (fX P)=true)(hd:∀i,i<m->i<du/\dd i<N/\(∀p∈bs,dd i≠p.1)/\∀c,c<m->c≠i->dd i≠dd c)(r:∀i,i<m->ZP (G i))(h:si O P bs dd m N G du aX w0 g n0 tf au a M w n Shun)(y:ops[j]?=some o)(e:j<m)(x:o.dst=some (dd j))(B:o.guard=none)(v:Value)(d:ay (cq M) v v)(hrun:∀l,gA (cU P) M (hO M) w l->∀T,(execOp a.eval o).run (ae P true) {l with tape:=T}=.ok (.value v) {l with tape:=T})(F:G j v M w)(K:∀a' M' w' q t,si O P bs dd m N G du aX w0 g n0 tf (au.setIfInBounds j true) a' M' w' q t->bS P Post q t 0 (aZ ((Conc.base f).at a' (.inRegion ops rest::k)) cs) w'):
 bS P Post n Shun 0 (aZ ((Conc.base f).at a (.inRegion ops (j::rest)::k)) cs) w:=by
 obtain⟨d1,s,D,C⟩:=hd j e;refine anz A h.fF z h.all h.defers hk y (xG B _) ⟨x,by rw[h.size];exact s⟩ d hrun λM' w' hs E u b H=>?_;exact K _ M' w' n Shun (h.step ⟨e,d1,s⟩ D C r E hs b u (d.mono (zZ hs)) (r j e v M w M' w' (b.carry h.fF) d hs b F) ⟨h.most.1,AA⟩)
def ZQ{ops:Array Oper}(a:(List.range ops.size).all (λj=>match ops[j]? with|some o=>o.after.all λe=> !Region.binds .any e||decide (e.on<j)|none=>true)=true)(h:au.size=ops.size)(f:Region.ready .any ops au=[]):∀j,j<ops.size->au.getD j false=true:=by
 intro j;induction j using Nat.strongRecOn with
 | _ j d=>
  intro b;apply Classical.byContradiction;intro hn;have g:j∈Region.ready .any ops au:=by
   refine mem_ready.2 ⟨?_,ops[j],AA,λe c i=>?_⟩
   .grind
   .have:=List.all_eq_true.1 a j AA;simp only[Array.getElem?_eq_getElem b]at this;have:=Array.all_eq_true_iff_forall_mem.1 this e c;grind
  grind
end
end
section
open RowKit
variable{O:gW}
structure xH(n0:Nat)(ρ:Ren)(w w':aO):Prop where
 cells:Carry ρ w w'
 types:∀a b c e z,ρ.rel a b->w.heap[a]?=some (.cells c e z)->∃c',w'.heap[b]?=some (.cells c' e z)/\c'.size=c.size
 new:∀a b,ρ.rel a b->n0<=a->n0<=b
 inj:∀a a' b,ρ.rel a b->ρ.rel a' b->a=a'
def j2(n0:Nat)(R:aO->Value->Prop):Prop:=∀ρ w w' v v',xH n0 ρ w w'->ay ρ v v'->R w v->R w' v'
def pz(n0:Nat)(I:Act->aO->Prop):Prop:=∀ρ a a' w w',xH n0 ρ w w'->aS ρ a.tmps a'.tmps->I a w->I a' w'
def oN(N:Nat)(fs:List (Nat×(aO->Value->Prop)))(a:Act)(w:aO):Prop:=a.tmps.size=N/\∀p∈fs,∃v,a.tmps[p.1]?=some v/\p.2 w v
def xI{n0 N:Nat}{fs:List (Nat×(aO->Value->Prop))}(h:∀p∈fs,j2 n0 p.2):pz n0 (oN N fs):=by rintro ρ a a' w w' f c ⟨hs,e⟩;refine⟨by rw[<-c.size];exact hs,λp b=>?_⟩;obtain⟨v,h1,i⟩:=e p b;obtain⟨d,h3,g⟩:=c.some h1;exact⟨d,h3,h p b _ _ _ _ _ f g i⟩
section
variable{P:cg}{Post:Value->aO->Prop}{n:Nat}{Shun:Loc->Prop}{M:Nat->Prop}{w:aO}
def Behind.lV{n0:Nat}{ρ:Ren}{g w':aO}(h:Behind O P M Shun w ρ g w')(hn:n0<=w.heap.size):xH n0 ρ g w':=by
 refine⟨h.carry,λa b c e z r k=>?_,λa b r q=>?_,(by obtain⟨S,d⟩:=h.rel;exact d.inj)⟩
 .obtain⟨S,d⟩:=h.rel;obtain⟨o,o',f,j,i⟩:=d.obj a b r;rw[k]at f;cases f;cases i with|@cells _ c' _ _ p m l=>have n:p=z:=l.2 Y;subst n;exact⟨_,j,m.size.symm⟩
 .rcases h.old a b r with⟨e,-⟩|h
  .grind
  .omega
def Home.lV{n0:Nat}(g:Home O P M Shun w){d:aO}(f:gA (cU P) M (hO M) w d)(T:Nat->Question->Nat):xH n0 (cq M) w {d with tape:=T}:=by refine⟨λa a' v r h=>f.carry g.cl a a' v r h,λa b c e z r j=>?_,λa b r l=>r.1▸l,λa a' b r i=>r.1.trans i.1.symm⟩;obtain⟨rfl,k⟩:=r;obtain⟨m,n,o⟩:=f.cells g.cl k j;grind
def ea.lV{n0:Nat}{w':aO}(h:ea M w w')(j:Home O P M Shun w):xH n0 (cq M) w w':=by refine⟨h.carry j,λa b c e z r f=>?_,λa b r i=>r.1▸i,λa a' b r d=>r.1.trans d.1.symm⟩;obtain⟨rfl,g⟩:=r;exact⟨_,h _ _ _ _ g f,Y⟩
def Behind.anG{ρ:Ren}{m l w':aO}(h:Behind O P M Shun w ρ l w')(n:Home O P M Shun w)(B:gA (cU P) M (hO M) w m){N:Nat->Prop}(a0:∀b,N b->M b)(hk:∀b c e z,N b->m.heap[b]?=some (.cells c e z)->l.heap[b]?=some (.cells c e z)):ea N w w':=by
 intro b c e fr a i;obtain⟨q,u,C⟩:=B.cells n.cl (a0 b a) i;have x:=C (a0 b a);subst x;have y:=hk b c e _ a u;obtain⟨S,j⟩:=h.rel;obtain⟨o,o',g,f,r⟩:=j.obj b b (h.le.1 b b ⟨Y,a0 b a⟩);rw[y]at g;cases g;cases r with
 |@cells _ c' _ _ A t s=>
  have v:A=q:=s.2 Y;subst v;obtain⟨D,k,d⟩:=n.cl b (a0 b a);rw[i]at k;cases k;rcases d with d|d
  .cases d with|cells _ p _=>rw[SE j.one t (p.mono h.le)]at f;exact f
  .exact d.elim
variable{f:FuncId}{a:Act}{k k':List Item}{cs:List Frame}{n0:Nat}
structure Held(O:gW)(P:cg)(aX:Nat->Prop)(w0:aO)(n0:Nat)(a:Act)(M:Nat->Prop)(w:aO)(Shun:Loc->Prop):Prop where
 fF:Home O P M Shun w
 sub:∀b,aX b->M b
 since:nY w0 w
 keep:ea (λb=>aX b/\b<n0) w0 w
 all:aS (cq M) a.tmps a.tmps
 defers:a.defers=[]
 size:n0<=w.heap.size
def Held.start(c:Home O P M Shun w)(hn:n0<=w.heap.size)(b:aS (cq M) a.tmps a.tmps)(hd:a.defers=[]):Held O P M w n0 a M w Shun:=⟨c,λ_ h=>h,.refl _,.refl _ _,b,hd,hn⟩
variable{aX:Nat->Prop}{w0:aO}
theorem Held.at(h:Held O P aX w0 n0 a M w Shun)(k:Nat):Held O P aX w0 n0 a M (w.at k) Shun:=
 ⟨(h.fF.at _),h.sub,⟨h.since.size,h.since.later,h.since.output,h.since.tape⟩,h.keep,h.all,h.defers,h.size⟩
def Held.next(h:Held O P aX w0 n0 a M w Shun){ρ:Ren}{f e w':aO}{T:Nat->Question->Nat}(j:gA (cU P) M (hO M) w f)(d:Behind O P M Shun w ρ e w')(c:Below n0 {f with tape:=T} e){a':Act}(i:aS (cq (px ρ)) a'.tmps a'.tmps)(hd:a'.defers=[]):Held O P aX w0 n0 a' (px ρ) w' Shun:=
 ⟨d.fF,λb c=>d.mem (h.sub b c),h.since.trans d.since,h.keep.trans (M':=λb=>M b/\b<n0) (λb c=>⟨h.sub b c.1,c.2⟩) (d.anG h.fF j AA λb _ _ _ hn g=>(c.block b hn.2).trans g),i,hd,Nat.le_trans h.size d.since.size⟩
def MK(l:(cU P).Good)(i:kY P f)(H:Held O P aX w0 n0 a M w Shun)(hk:k.all (fX P)=true)(p:k'.all (fX P)=true){I J:Act->aO->Prop}(j:pz n0 I)(m:pz n0 J)(h0:I a w)(hrun:∀W,n0<=W.heap.size->I a W->bK (ae P true) k k' (λa1 w1=>a1.defers=[]/\J a1 w1/\Below n0 W w1) a W)(o:∀a' M' w',Held O P aX w0 n0 a' M' w' Shun->J a' w'->bS P Post n Shun 0 (aZ ((base f).at a' k') cs) w'):
 bS P Post n Shun 0 (aZ ((base f).at a k) cs) w:=by
 refine ZO l H.fF i H.all H.defers hk p (Q:=λc a1 w1=>J a1 w1/\∃T,Below n0 {c with tape:=T} w1) (λc d T b cs=>?_) ?_
 .obtain⟨a1,w1,⟨h1,h,h3⟩,g⟩:=hrun {c with tape:=T} (by show n0<=c.heap.size;rw[d.size];exact H.size) (j _ _ _ _ _ (H.fF.lV d T) H.all h0) b cs;grind
 .rintro ρ c a1 w1 a' w' d ⟨h1,T,h⟩ h3 g e;exact o a' (px ρ) w' (H.next d e h (e.all h3) g) (m _ _ _ _ _ (e.lV H.size) h3 h1)
def ML(r:(cU P).Good){fn:Func}(m:P.funcs[f]?=some fn)(l:hX P true fn=true)(p:fn.body=some gV)(H:Held O P aX w0 n0 a M w Shun)(hk:k.all (fX P)=true){h:FuncId}{aF:Act}{aD:Array Oper}{aI:Nat}{aL:List Nat}{aH:List Item}{csZ:List Frame}(o:vZ P aX h aF aD aI aH){I:Act->aO->Prop}{gZ:aO->Value->Prop}(q:pz n0 I)(t:j2 n0 gZ)(h0:I a w)(hrun:∀W,n0<=W.heap.size->I a W->uq (ae P true) fn k (λv w1=>gZ w1 v/\Below n0 W w1) a W)(s:∀u M' w',Home O P M' Shun w'->(∀b,aX b->M' b)->ay (cq M') u u->nY w0 w'->ea (λb=>aX b/\b<n0) w0 w'->gZ w' u->bS P Post n Shun 0 (aZ ((base h).at (aF.put ((aD[aI]?).bind (·.dst)) u) (.inRegion aD aL::aH)) csZ) w'):
 bS P Post n Shun 0 (aZ ((base f).at a k) ((base h).at aF (.inRegion aD (aI::aL)::aH)::csZ)) w:=by
 refine anC r H.fF m l p H.all H.defers hk (o.mono H.sub) (gZ:=λc v w1=>gZ w1 v/\∃T,Below n0 {c with tape:=T} w1) (λc e T f cs j=>?_) ?_
 .obtain⟨v,w1,fr,⟨h1,i⟩,h3,x⟩:=hrun {c with tape:=T} JH (q _ _ _ _ _ (H.fF.lV e T) H.all h0) f cs j;grind
 .rintro ρ c v y u w' e ⟨h1,T,i⟩ h3 g;have d:=H.next e g i (a':=⟨#[],[]⟩) ⟨Y,AA⟩ Y;exact s u (px ρ) w' d.fF d.sub (g.val h3) d.since d.keep (t _ _ _ _ _ (g.lV H.size) h3 h1)
variable{ops:Array Oper}{i:Nat}{rest:List Nat}{o:Oper}
def SI{d:Nat}{g:FuncId}{args:Array Operand}{ats:Array TypeId}(j:o.op=.call {callee:=.value (.func g),args,argTypes:=ats})(hg:P.funcs[g]?=some dG)(q:(dG.name== "runtime.NumGoroutine")=false)(c:dG.body=some gV)(hn:n+16*d<=200)(v:kY P f)(H:Held O P aX w0 n0 a M w Shun)(hk:(Item.inRegion ops []::k).all (fX P)=true)(t:ops[i]?=some o)(B:o.guard=none){l:Tmp}(s:o.dst=some l/\l<a.tmps.size){I J:Act->aO->Prop}{np:aO->Value->Prop}(x:pz n0 I)(h0:I a w)(r:∀k,jN O P Post g (args.map a.eval) M (w.at k) d (λu _ w'=>np w' u/\ea M w w'))(A:∀u w',I a w'->np w' u->J (a.put (some l) u) w')(C:∀a' M' w' e h,e<=n+16*d->Held O P aX w0 n0 a' M' w' h->J a' w'->bS P Post e h 0 (aZ ((base f).at a' (.inRegion ops rest::k)) cs) w'):
 bS P Post n Shun 0 (aZ ((base f).at a (.inRegion ops (i::rest)::k)) cs) w:=by
 simp only[List.all_cons,Bool.and_eq_true]at hk;refine ZL j hg q c Y hn H.fF ⟨v,.inl H.all,H.defers,hk.1,hk.2,AA⟩ t (xG B _) r ?_;rintro u M' w' e h h1 z h3 y p ⟨D,m⟩;rw[s.1];refine C _ M' w' e h h1 ⟨z,λb c=>h3 b (H.sub b c),H.since.trans p,H.keep.trans (λb c=>H.sub b c.1) m,?_,H5,Nat.le_trans H.size p.size⟩ (A u w' (x _ _ _ _ _ (m.lV H.fF) H.all h0) D);exact(H.all.mono (zZ h3)).set y _
def anH(R:(cU P).Good)(C:P.follows .mixedOrders=true)(y:kY P f)(hk:(Item.inRegion ops []::k).all (fX P)=true)(g:Nat){j:Oper}{d:Nat}{gf:FuncId}{args:Array Operand}{ats:Array TypeId}(t:ops[g]?=some j)(p:j.op=.call {callee:=.value (.func gf),args,argTypes:=ats})(B:P.funcs[gf]?=some dG)(D:(dG.name== "runtime.NumGoroutine")=false)(N:dG.body=some gV)(S:j.guard=none)(hn:n+16*d<=200){I:Array Bool->Act->aO->Prop}(l:∀au,pz n0 (I au)){r:Tmp}(Z:j.dst=some r)(MM:∀au a w,I au a w->r<a.tmps.size){np:aO->Value->Prop}(hsz:∀au a w,I au a w->au.size=ops.size)(H:Held O P aX w0 n0 a M w Shun)(h0:I (Array.replicate ops.size false) a w)(hstep:∀au a W i o,I au a W->a.defers=[]->n0<=W.heap.size->i≠g->au.getD i true=false->ops[i]?=some o->(∀e∈o.after,Region.binds .any e=true->au.getD e.on false=true)->wpOps (ae P true) ops (jb λa1 w1=>a1.defers=[]/\I (au.setIfInBounds i true) a1 w1/\Below n0 W w1) [i] a W)(F:∀au a M w Shun,Held O P aX w0 n0 a M w Shun->I au a w->au.getD g false=false->(∀e∈j.after,Region.binds .any e=true->au.getD e.on false=true)->jN O P Post gf (args.map a.eval) M w d (λu _ w'=>np w' u/\ea M w w'))(E:∀au a w u,I au a w->au.getD g false=false->(∀e∈j.after,Region.binds .any e=true->au.getD e.on false=true)->np w u->I (au.setIfInBounds g true) (a.put (some r) u) w)(X:∀au a M' w' c A,I au a w'->Region.ready .any ops au=[]->c<=n+16*d->Held O P aX w0 n0 a M' w' A->bS P Post c A 0 (aZ ((base f).at a (.inRegion ops []::k)) cs) w'){id:Nat}:bS P Post n Shun 0 (aZ ((base f).at a (.code (.region id ops true)::k)) cs) w:=by
 have cK:∀au a M w Shun k,Held O P aX w0 n0 a M w Shun->I au a w->I au a (w.at k):=λau a M w Shun k H h=>l au _ _ _ _ _ ((show ea M w (w.at k)from λ_ _ _ _ _ x=>x).lV H.fF) H.all h;refine ZN C (I:=λau a M w c Shun=>Held O P aX w0 n0 a M w Shun/\I au a w/\c<=n+16*d/\(au.getD g false=false->c<=n)) (λau a M w c Shun k h=>⟨h.1.at k,AA,h.2.2⟩) ?_ AA ⟨H,h0,Nat.le_add_right _ _,λ_=>Nat.le_refl _⟩;intro au a M w c Shun i o rest ⟨H,hi,U,V⟩ L q m K;have Ff:i<au.size:=by grind
 by_cases s:i=g
 .subst s;rw[t]at q;cases q;have v:au.getD i false=false:=by grind
  refine SI p B D N AA y H hk t S AA (I:=I au) (J:=I (au.setIfInBounds i true)) (np:=np) (l au) hi (λk=>F au a M (w.at k) Shun (H.at k) AA v m) (λu w' h1 z=>E au a w' u h1 v m z) ?_;grind[rk]
 .refine MK R y H (k:=.inRegion ops (i::rest)::k) (k':=.inRegion ops rest::k) DX DX (I:=I au) (J:=I (au.setIfInBounds i true)) (l au) (l _) hi (λW Q T b cs=>?_) ?_
  .obtain⟨a1,w1,h1,z⟩:=IP rest [i] a W (hstep au a W i o T H.defers Q s L q m) b k cs;grind
  grind[rk]
end
end
section
open RowKit
section
variable{ρ:Ren}
theorem SJ:∀{l b:List Value},l.length=b.length->(∀(i:Nat)(v a:Value),l[i]?=some v->b[i]?=some a->ay ρ v a)->dy (ay ρ) l b
 | [],[],_,_=>.nil
 | [],_::_,hs,_=>AA
 | _::_,[],hs,_=>AA
 | _::_,_::_,hs,h=>.cons (h 0 _ _ Y Y) (SJ AA λi v a h1 c=>h (i+1) v a AA AA)
def ZR{l:List Value}{b:Array Value}(hs:l.toArray.size=b.size)(h:∀(i:Nat)(v a:Value),l.toArray[i]?=some v->b[i]?=some a->ay ρ v a):∃c,b=c.toArray/\dy (ay ρ) l c:=by grind[SJ]
def IR{l:List Value}{u:Value}(h:ay ρ (.tuple l.toArray) u):∃a,u=.tuple a.toArray/\dy (ay ρ) l a:=by cases h with|tuple hs hg=>obtain⟨a,rfl,k⟩:=ZR hs hg;grind
def tg{l:List Value}{u:Value}(h:ay ρ (.agg l.toArray) u):∃a,u=.agg a.toArray/\dy (ay ρ) l a:=by cases h with|agg hs hg=>obtain⟨a,rfl,k⟩:=ZR hs hg;grind
def js{k:IntKind}{n:Int}{u:Value}(h:ay ρ (.int k n) u):u=.int k n:=by cases h;rfl
def SK{b:Bool}{u:Value}(h:ay ρ (.bool b) u):u=.bool b:=by cases h;rfl
def qv{l c:Nat}{u:Value}(h:ay ρ (.slice none l c) u):u=.slice none l c:=by cases h;rfl
def xK{b o l c:Nat}{u:Value}(h:ay ρ (.slice (some ⟨b,o,none⟩) l c) u):∃a,u=.slice (some ⟨a,o,none⟩) l c/\ρ.rel b a:=by cases h with|@slice _ a' _ _ r=>obtain⟨a,o',s'⟩:=a';obtain⟨f,e,d⟩:=r;grind
def SL{a:Option Addr}{l c:Nat}{u:Value}(h:ay ρ (.slice a l c) u):∃b,u=.slice b l c:=by cases h with|jy=>grind|slice=>grind
def FR{b o:Nat}{u:Value}(h:ay ρ (.pointer (some ⟨b,o,none⟩)) u):∃a,u=.pointer (some ⟨a,o,none⟩)/\ρ.rel b a:=by cases h with|@ptr _ a' r=>obtain⟨a,o',s'⟩:=a';obtain⟨e,d,c⟩:=r;grind
end
variable{n0:Nat}
def eo(x:Value)(_:aO)(v:Value):Prop:=v=x
theorem z0(k:IntKind)(i:Int):j2 n0 (eo (.int k i)):=λ_ _ _ _ _ _ a h=>by cases h;exact js a
def anJ(b:Bool):j2 n0 (eo (.bool b)):=λ_ _ _ _ _ _ a h=>by cases h;exact SK a
def anK:j2 n0 (eo undef):=λ_ _ _ _ _ _ a h=>by cases h;obtain⟨b,rfl,k⟩:=IR (l:=[]) a;cases k;rfl
def anL(a b:Int):j2 n0 (eo (.agg #[.int .i64 a,.int .i64 b])):=λ_ _ _ _ _ _ c h=>by
 cases h;obtain⟨e,rfl,k⟩:=tg c;cases k with
 |cons h1 k=>cases k with
  |cons d k=>cases k;rw[js h1,js d];rfl
def th(R:aO->Value->Prop):Prop:=∀w w' v,Below w.heap.size w w'->R w v->R w' v
def th.eq(x:Value):th (eo x):=λ_ _ _ _ h=>h
theorem SN(n j:Nat):(Array.replicate n false).getD j false=false:=by simp_all[Array.getD]
def jO{P:cg}{ops:Array Oper}{Q:Exit->Act->aO->Prop}{R:Act->aO->Prop}{i:Nat}{rest:List Nat}{a:Act}{w:aO}(h:wpOps P ops (jb R) [i] a w)(k:∀a w,R a w->wpOps P ops Q rest a w):wpOps P ops Q (i::rest) a w:=by
 simp[wpOps]at h⊢;cases m:ops[i]? with
 |none=>simp[m]at h⊢;exact k _ _ h.2
 |some o=>
  simp[m]at h⊢;by_cases l:Region.wanted o (yielded ops a.tmps)=true
  .simp[l]at h⊢;rcases h with h|⟨-,j,b,hq⟩
   .refine .inl ?_;simp[Oper.wp,Oper.upon]at h⊢;generalize(execOp a.eval o).run P w=r at h⊢;cases r with
    |ok x w'=>
     cases x with
     |value v=>exact k _ _ h.2
     |skip=>exact k _ _ h.2
     |defer d=>exact k _ _ h.2
     |enter f args=>refine Calls.mono h ?_;intro e w'' g;cases e with|returned v=>exact k _ _ g.2|panicked c=>cases g.1|outgrown=>obtain⟨j,b,hq⟩:=g;cases hq.1
     |row r args=>exact Rows.mono h λ_ _ g=>k _ _ g.2
     | _=>exact h.elim
    |halt x w'=>cases x<;>first|exact h.elim|(cases h.1)
   .cases hq.1
  .simp[l]at h⊢;exact k _ _ h.2
theorem ZS{P:cg}{ops:Array Oper}{Q:Act->aO->Prop}{i:Nat}{o:Oper}{a:Act}{w w1:aO}{v:Value}(d:ops[i]?=some o)(b:Region.wanted o (yielded ops a.tmps)=true){s:Nat}(hd:o.dst=some s)(c:(execOp a.eval o).run P w=.ok (.value v) w1)(h:Q (a.put (some s) v) w1):wpOps P ops (jb Q) [i] a w:=by simp[wpOps,d,b];refine .inl ?_;simp[Oper.wp,Oper.upon,c,hd];exact⟨Y,h⟩
def anM{P:cg}{ops:Array Oper}{Q:Act->aO->Prop}{i:Nat}{o:Oper}{a:Act}{w:aO}(d:ops[i]?=some o)(b:Region.wanted o (yielded ops a.tmps)=true){s:Nat}(hd:o.dst=some s){f:FuncId}{args:Array Value}(c:(execOp a.eval o).run P w=.ok (.enter f args) w)(h:Calls P f args w λe w'=>∃v,e=.returned v/\Q (a.put (some s) v) w'):wpOps P ops (jb Q) [i] a w:=by simp[wpOps,d,b];refine .inl ?_;simp[Oper.wp,Oper.upon,c,hd];refine h.mono ?_;rintro e w' ⟨v,rfl,h⟩;exact⟨Y,h⟩
def ZT{P:cg}{ops:Array Oper}{Q:Act->aO->Prop}{i:Nat}{o:Oper}{a:Act}{w:aO}(c:ops[i]?=some o)(b:Region.wanted o (yielded ops a.tmps)=false){s:Nat}(hd:o.dst=some s)(h:Q (a.put (some s) undef) w):wpOps P ops (jb Q) [i] a w:=by simp[wpOps,c,b,hd];exact⟨Y,h⟩
section
variable{P:cg}{ops:Array Oper}{Q:Act->aO->Prop}{i:Nat}{o:Oper}{a:Act}{w w1:aO}{v:Value}
def qw(c:ops[i]?=some o)(d:o.guard=none){s:Nat}(hd:o.dst=some s)(b:(execOp a.eval o).run P w=.ok (.value v) w1)(h:Q (a.put (some s) v) w1):wpOps P ops (jb Q) [i] a w:=ZS c (xG d _) hd b h
def wb(c:ops[i]?=some o)(d:o.guard=none)(hd:o.dst=none)(b:(execOp a.eval o).run P w=.ok .skip w1)(h:Q a w1):wpOps P ops (jb Q) [i] a w:=by simp[wpOps,c,xG d];refine .inl ?_;simp[Oper.wp,Oper.upon,b,hd];exact⟨Y,h⟩
end
def anN{ops:Array Oper}{o:Oper}{tmps:Array Value}{g d:Nat}{b c:Bool}(hg:o.guard=some (g,b))(hd:(ops[g]?).bind (·.dst)=some d)(ht:tmps[d]?=some (.bool c)):Region.wanted o (yielded ops tmps)=(c==b):=by grind[Region.wanted,yielded]
def anO{ops:Array Oper}{o:Oper}{tmps:Array Value}{g d:Nat}{b:Bool}(hg:o.guard=some (g,b))(hd:(ops[g]?).bind (·.dst)=some d)(ht:tmps[d]?=some undef):Region.wanted o (yielded ops tmps)=false:=by unfold Region.wanted yielded;simp only[hg,hd,Option.bind_some,ht];cases b<;>rfl
def anP{P:cg}{ops:Array Oper}{Q:Exit->Act->aO->Prop}{R K:Act->aO->Prop}{i:Nat}{a:Act}{w:aO}(h:wpOps P ops (jb R) [i] a w)(k:∀a w,R a w->K a w):wpOp P ops Q i K a w:=by
 rw[wpOps_cons]at h;have h:=wpOp_mono (K':=R) (λa w(n:wpOps P ops (jb R) [] a w)=>n.2) h;unfold wpOp at h⊢;cases m:ops[i]? with
 |none=>grind
 |some o=>
  simp[m]at h⊢;by_cases l:Region.wanted o (yielded ops a.tmps)=true
  .simp[l]at h⊢;rcases h with h|⟨-,g,b,hq⟩
   .refine .inl ?_;simp[Oper.wp,Oper.upon]at h⊢;generalize(execOp a.eval o).run P w=r at h⊢;cases r with
    |ok x w'=>
     cases x with
     |value v=>grind
     |skip=>grind
     |defer d=>grind
     |enter f args=>refine Calls.mono h ?_;intro e w'' j;cases e with|returned v=>grind|panicked c=>cases j.1|outgrown=>obtain⟨g,b,hq⟩:=j;cases hq.1
     |row r args=>grind[Rows.mono]
     | _=>exact h.elim
    |halt x w'=>cases x<;>first|exact h.elim|(cases h.1)
   .cases hq.1
  grind
def Ce{P:cg}{ops:Array Oper}{ks ks':List Item}{Q:Act->aO->Prop}{a:Act}{w:aO}{l:List Nat}(h:wpOps P ops (jb (bK P (.inRegion ops []::ks) ks' Q)) l a w):bK P (.inRegion ops l::ks) ks' Q a w:=λb cs=>by obtain⟨a1,w1,h1,e⟩:=IP [] l a w h b ks cs;obtain⟨f,c,h3,d⟩:=h1 b cs;grind[Steps.trans]
def SO{P:cg}{id n:Nat}{ops:Array Oper}{ks ks':List Item}{Q:Act->aO->Prop}{a:Act}{w:aO}(hn:ops.size=n)(h:wpOps P ops (jb (bK P (.inRegion ops []::ks) ks' Q)) (List.range' 0 n) a w):bK P (.code (.region id ops false)::ks) ks' Q a w:=uo (Ce (hn▸h))
theorem pA{P:cg}{ops:Array Oper}{ks ks':List Item}{Q:Act->aO->Prop}{a:Act}{w:aO}(h:bK P ks ks' Q a w):wpOps P ops (jb (bK P (.inRegion ops []::ks) ks' Q)) [] a w:=⟨Y,sg h⟩
theorem eb{a:Act}{t:Nat}{v:Value}(h:a.tmps[t]?=some v):a.eval (.tmp t)=v:=by simp[Act.eval,h]
theorem dP{a:Act}{t s:Nat}{v:Value}(h:t≠s):(a.put (some t) v).tmps[s]?=a.tmps[s]?:=by simp[Act.put,h]
def kt{a:Act}{t:Nat}{v:Value}(h:t<a.tmps.size):(a.put (some t) v).tmps[t]?=some v:=by simp[Act.put,h]
end
open RowKit
structure bp where
 R:aO->Value->Prop
 hJ:th R
 ok:Nat->Prop
 j3:∀n,ok n->j2 n R
def IS(n:Nat):List (Nat×bp)->Prop
 | []=>True
 |p::l=>p.2.ok n/\IS n l
abbrev bJ:=Nat->Option bp
def up(K:bJ)(s:Nat)(F:bp):bJ:=λi=>if i=s then some F else K i
def aK:List (Nat×bp)->bJ
 | [],_=>none
 |p::l,s=>if s=p.1 then some p.2 else aK l s
structure af(N:Nat)(K:bJ)(a:Act)(w:aO):Prop where
 size:a.tmps.size=N
 has:∀s F,K s=some F->∃v,a.tmps[s]?=some v/\F.R w v
def z1(K:bJ):List (Nat×bp)->Prop
 | []=>True
 |p::l=>K p.1=some p.2/\z1 K l
theorem ZU{K:bJ}:∀{l:List (Nat×bp)},z1 K l->∀s F,aK l s=some F->K s=some F
 | [],_,_,_,h=>by cases h
 |p::l,hi,s,F,h=>by
  unfold aK at h;split at h
  .rename_i e;rw[e,<-h];exact hi.1
  .exact ZU hi.2 s F h
theorem fj{n:Nat}:∀{l:List (Nat×bp)},IS n l->∀s F,aK l s=some F->F.ok n
 | [],_,_,_,h=>by cases h
 |p::l,hi,s,F,h=>by
  unfold aK at h;split at h
  .cases h;exact hi.1
  .exact fj hi.2 s F h
section
variable{N:Nat}{K K':bJ}{a:Act}{w w1:aO}
def af.sub(h:af N K a w)(hs:∀s F,K' s=some F->K s=some F):af N K' a w:=⟨h.size,λs F e=>h.has s F (hs s F e)⟩
def af.aU{l:List (Nat×bp)}(h:af N K a w)(hs:z1 K l):af N (aK l) a w:=h.sub (ZU hs)
theorem af.hJ(h:af N K a w)(b:Below w.heap.size w w1):af N K a w1:=⟨h.size,λs F e=>by
 obtain⟨v,h1,c⟩:=h.has s F e;exact⟨v,h1,F.hJ _ _ _ b c⟩⟩
theorem af.put(h:af N K a w){s:Nat}(hs:s<N)(c:Below w.heap.size w w1){F:bp}{v:Value}(b:F.R w1 v):af N (up K s F) (a.put (some s) v) w1:=by
 refine⟨H7,λi G e=>?_⟩;unfold up at e;split at e
 .rename_i hi;cases e;subst hi;exact⟨v,kt (by rw[h.size];exact hs),b⟩
 .rename_i hi;obtain⟨x,h1,d⟩:=h.has i G e;exact⟨x,(dP (Ne.symm hi)).trans h1,G.hJ _ _ _ c d⟩
def jP(n:Nat)(hok:∀s F,K s=some F->F.ok n):pz n (af N K):=by intro ρ a a' w w' d b h;refine⟨by rw[<-b.size];exact h.size,λs F e=>?_⟩;obtain⟨v,h1,g⟩:=h.has s F e;obtain⟨c,h3,f⟩:=b.some h1;exact⟨c,h3,F.j3 _ (hok s F e) _ _ _ _ _ d f g⟩
end
def bl(K:bJ):Operand->bp->Prop
 | .tmp s,F=>K s=some F
 | .const v,F=>∀w,F.R w v
 | _,_=>False
def af.ev{N:Nat}{K:bJ}{a:Act}{w:aO}(h:af N K a w){x:Operand}{F:bp}(b:bl K x F):F.R w (a.eval x):=by
 cases x with
 |tmp s=>obtain⟨v,h1,c⟩:=h.has s F b;grind[eb]
 |const v=>exact b w
 | _=>exact b.elim
def we(P:cg)(o:Oper)(F:bp)(a:Act)(w:aO):Prop:=
 (∃v w1,(execOp a.eval o).run P w=.ok (.value v) w1/\F.R w1 v/\Below w.heap.size w w1)\/∃f args,(execOp a.eval o).run P w=.ok (.enter f args) w/\Calls P f args w λe w'=>∃v,e=.returned v/\F.R w' v/\Below w.heap.size w w'
def bG(P:cg)(N:Nat)(K:bJ)(o:Oper)(F:bp):Prop:=∀a w,af N K a w->we P o F a w
def ZV{P:cg}{ops:Array Oper}{i s:Nat}{o:Oper}{F:bp}{a:Act}{w:aO}(d:ops[i]?=some o)(c:Region.wanted o (yielded ops a.tmps)=true)(hd:o.dst=some s)(h:we P o F a w):wpOps P ops (jb λa1 w1=>(∃v,a1=a.put (some s) v/\F.R w1 v)/\Below w.heap.size w w1) [i] a w:=by
 rcases h with⟨v,w1,h1,b,h3⟩|⟨f,args,h1,b⟩
 .grind[ZS]
 .refine anM d c hd h1 (b.mono ?_);grind
def bt(n:Int):bp:=⟨eo (.int .i64 n),th.eq _,λ_=>True,λ_ _=>z0 _ _⟩
def bL(b:Bool):bp:=⟨eo (.bool b),th.eq _,λ_=>True,λ_ _=>anJ _⟩
def oP:bp:=⟨eo undef,th.eq _,λ_=>True,λ_ _=>anK⟩
def z2(s:ByteArray):bp:=⟨eo (.string s),th.eq _,λ_=>True,λ_ _ _ _ _ _ _ _ hv h=>by cases h;cases hv;rfl⟩
def de(v:Value):bp:=⟨eo v,th.eq _,λ_=>False,λ_ h=>h.elim⟩
def sj(ops:Array Oper)(K:bJ)(o:Oper)(c:Bool):Prop:=
 match o.guard with
 |none=>c=true
 |some (g,b)=>∃d,(ops[g]?).bind (·.dst)=some d/\((∃x,K d=some (bL x)/\c=(x==b))\/K d=some oP/\c=false)
def sj.is{ops:Array Oper}{K:bJ}{o:Oper}{c:Bool}{N:Nat}{a:Act}{w:aO}(h:sj ops K o c)(hk:af N K a w):Region.wanted o (yielded ops a.tmps)=c:=by
 unfold sj at h;split at h
 .grind[xG]
 .rename_i g b e;obtain⟨d,h1,⟨x,i,rfl⟩|⟨i,rfl⟩⟩:=h
  .obtain⟨v,h3,f⟩:=hk.has d _ i;cases f;exact anN e h1 h3
  .obtain⟨v,h3,f⟩:=hk.has d _ i;cases f;exact anO e h1 h3
def MO(P:cg)(N:Nat)(ops:Array Oper)(K:bJ)(o:Oper)(F:bp):Prop:=(sj ops K o true/\bG P N K o F)\/(sj ops K o false/\F=oP)
theorem MO.step{P:cg}{N:Nat}{ops:Array Oper}{K:bJ}{o:Oper}{F:bp}(h:MO P N ops K o F){a:Act}{w:aO}{i s:Nat}(hk:af N K a w)(b:ops[i]?=some o)(hd:o.dst=some s):wpOps P ops (jb λa1 w1=>(∃v,a1=a.put (some s) v/\F.R w1 v)/\Below w.heap.size w w1) [i] a w:=by
 rcases h with⟨h1,c⟩|⟨h1,rfl⟩
 .exact ZV b (h1.is hk) hd (c a w hk)
 .exact ZT b (h1.is hk) hd ⟨⟨undef,Y,Y⟩,Below.refl _ _⟩
def uu(P:cg)(N:Nat)(ops:Array Oper):List Oper->bJ->bJ->Prop
 | [],K,K'=>K=K'
 |o::l,K,K'=>∃d,o.dst=some d/\d<N/\∃F,MO P N ops K o F/\uu P N ops l (up K d F) K'
def ar{P:cg}{N:Nat}{ops:Array Oper}{o:Oper}{l:List Oper}{K K':bJ}{d:Nat}{F:bp}(hd:o.dst=some d)(a:bG P N K o F)(h:uu P N ops l (up K d F) K')(hg:o.guard=none:=by rfl)(a0:d<N:=by decide):uu P N ops (o::l) K K':=⟨d,hd,a0,F,.inl ⟨JG,a⟩,h⟩
def hP{P:cg}{N:Nat}{ops:Array Oper}{o:Oper}{l:List Oper}{K K':bJ}{d g t:Nat}{b:Bool}{F:bp}(hd:o.dst=some d)(a:bG P N K o F)(h:uu P N ops l (up K d F) K')(a0:d<N:=by decide)(hg:o.guard=some (g,b):=by rfl)(ht:(ops[g]?).bind (·.dst)=some t:=by rfl)(hk:K t=some (bL b):=by rfl):uu P N ops (o::l) K K':=⟨d,hd,a0,F,.inl ⟨JG,a⟩,h⟩
theorem MP{P:cg}{N:Nat}{ops:Array Oper}{Q:Exit->Act->aO->Prop}{rest:List Nat}:∀{l:List Oper}{i:Nat}{K K':bJ}{a:Act}{w:aO},uu P N ops l K K'->(∀j o,l[j]?=some o->ops[i+j]?=some o)->af N K a w->(∀a' w',af N K' a' w'->a'.defers=a.defers->Below w.heap.size w w'->wpOps P ops Q rest a' w')->wpOps P ops Q (List.range' i l.length++rest) a w
 | [],i,K,K',a,w,h,_,hk,k=>by cases h;grind[Below.refl]
 |o::l,i,K,K',a,w,⟨d,hd,a0,F,c,h⟩,hi,hk,k=>by rw[List.length_cons,List.range'_succ,List.cons_append];refine jO (c.step hk (hi 0 o Y) hd) ?_;rintro a1 w1 ⟨⟨v,rfl,e⟩,b⟩;refine MP h (λj o' g=>by have:=hi (j+1) o' AA;grind) (hk.put a0 b e) λa' w' h1 f h3=>k a' w' h1 (f.trans (put_defers _ _ _)) (b.trans (h3.mono b.size))
def di{P:cg}{N id:Nat}{ops:Array Oper}{ks ks':List Item}{Q:Act->aO->Prop}{K K':bJ}{a:Act}{w:aO}(hk:af N K a w)(h:uu P N ops ops.toList K K')(k:∀a' w',af N K' a' w'->a'.defers=a.defers->Below w.heap.size w w'->bK P ks ks' Q a' w'):bK P (.code (.region id ops false)::ks) ks' Q a w:=by refine SO (n:=ops.toList.length) A_ ?_;rw[<-List.append_nil (List.range' 0 ops.toList.length)];grind[MP,pA]
def uv(K:bJ)(ops:Array Oper)(acc:bJ)(o:Oper):bJ:=λs=>
 match o.after.toList.find? (λe=>Region.binds .any e&&((ops[e.on]?).bind (·.dst)==some s))with
 |some e=>acc e.on
 |none=>K s
def xL(te:Nat->Oper->Option Nat)(bW:Nat->Bool)(X:Nat->bJ->Oper->bp->Prop)(N:Nat):List Oper->Nat->bJ->bJ->bJ->Prop
 | [],_,_,gg,K'=>gg=K'
 |o::l,j,acc,gg,K'=>∃d,te j o=some d/\d<N/\∃F,X j acc o F/\xL te bW X N l (j+1) (up acc j F) (if bW j then up gg d F else gg) K'
abbrev z3(P:cg)(N:Nat)(ops:Array Oper)(K:bJ):List Oper->Nat->bJ->bJ->bJ->Prop:=xL (λ_ o=>o.dst) (λ_=>true) (λ_ acc o=>MO P N ops (uv K ops acc o) o) N
section
variable{P:cg}{N:Nat}{ops:Array Oper}{K:bJ}{o:Oper}{l:List Oper}{j:Nat}{acc gg K':bJ}{d:Nat}{F:bp}
def dq(hd:o.dst=some d)(a:bG P N (uv K ops acc o) o F)(h:z3 P N ops K l (j+1) (up acc j F) (up gg d F) K')(hg:o.guard=none:=by rfl)(a0:d<N:=by decide):z3 P N ops K (o::l) j acc gg K':=⟨d,hd,a0,F,.inl ⟨JG,a⟩,h⟩
def cn{g t:Nat}{b:Bool}(hd:o.dst=some d)(a:bG P N (uv K ops acc o) o F)(h:z3 P N ops K l (j+1) (up acc j F) (up gg d F) K')(a0:d<N:=by decide)(hg:o.guard=some (g,b):=by rfl)(ht:(ops[g]?).bind (·.dst)=some t:=by rfl)(hk:uv K ops acc o t=some (bL b):=by rfl):z3 P N ops K (o::l) j acc gg K':=⟨d,hd,a0,F,.inl ⟨JG,a⟩,h⟩
def eU{g t:Nat}{b c:Bool}(hd:o.dst=some d)(h:z3 P N ops K l (j+1) (up acc j oP) (up gg d oP) K')(a0:d<N:=by decide)(hg:o.guard=some (g,b):=by rfl)(ht:(ops[g]?).bind (·.dst)=some t:=by rfl)(hk:uv K ops acc o t=some (bL c):=by rfl)(a:(c==b)=false:=by rfl):z3 P N ops K (o::l) j acc gg K':=⟨d,hd,a0,oP,.inr ⟨JG,Y⟩,h⟩
theorem xL.all{b:Nat->Oper->Option Nat}{g:Nat->Bool}{X:Nat->bJ->Oper->bp->Prop}:∀{l:List Oper}{j:Nat}{acc gg:bJ},xL b g X N l j acc gg K'->∃cV:Nat->bp,(∀i o,l[i]?=some o->∃d,b (j+i) o=some d/\d<N/\X (j+i) (λs=>if j<=s/\s<j+i then some (cV s)else acc s) o (cV (j+i)))/\∀s F,K' s=some F->(∃i o,l[i]?=some o/\b (j+i) o=some s/\F=cV (j+i)/\g (j+i)=true)\/gg s=some F
 | [],j,acc,gg,h=>by cases h;exact⟨λ_=>oP,λi o hi=>AA,λs F h=>.inr h⟩
 |o::l,j,acc,gg,⟨d,hd,a0,F,t,h⟩=>by
  obtain⟨cV,h1,q⟩:=xL.all h;refine⟨λs=>if s=j then F else cV s,λi o' hi=>?_,λs G p=>?_⟩
  .cases i with
   |zero=>simp at hi;subst hi;refine⟨d,hd,a0,?_⟩;have e:(λs=>if j<=s/\s<j+0 then some (if s=j then F else cV s)else acc s)=acc:=funext λs=>if_neg As;grind
   |succ i=>
    have a:j+1+i=j+(i+1):=As;obtain⟨r,f,c,n⟩:=h1 i o' AA;refine⟨r,a▸f,c,?_⟩;have e:(λs=>if j<=s/\s<j+(i+1)then some (if s=j then F else cV s)else acc s)=(λs=>if j+1<=s/\s<j+1+i then some (cV s)else up acc j F s):=funext λs=>by grind[up]
    grind
  .rcases q s G p with⟨i,o',f,c,n,m⟩|k
   .have a:j+1+i=j+(i+1):=by omega
    exact .inl ⟨i+1,o',AA,a▸c,AA,a▸m⟩
   .split at k
    .unfold up at k;split at k
     .rename_i hk e;cases k;exact .inl ⟨0,o,Y,AA,A_,hk⟩
     grind
    .exact .inr k
end
def oQ(n i:Nat):Array Bool:=((List.range n).map λj=>decide (j<i)).toArray
def anQ{n i j:Nat}(h:j<n):(oQ n i).getD j false=decide (j<i):=by simp[oQ,Array.getD,h]
theorem ZW{n i:Nat}(h:i<n):(oQ n i).setIfInBounds i true=oQ n (i+1):=by
 apply Array.ext_getElem?;intro j;rw[Array.getElem?_setIfInBounds];by_cases e:i=j
 .grind[oQ]
 .rw[if_neg e];grind[oQ]
theorem anR{n:Nat}:∀{m:Nat},m<=n->(oQ n m).toList.count false=n-m:=by
 have key:∀k m,m<=n->n-m=k->(oQ n m).toList.count false=k:=by intro k;induction k with|zero=>grind[List.count_eq_zero,oQ]|succ k a=>intro m h1 b;have h3:=count_set (au:=oQ n m) (i:=m) (by simp[oQ,Array.getD];omega);grind[ZW]
 grind
structure FT(N:Nat)(ops:Array Oper)(K:bJ)(cV:Nat->bp)(au:Array Bool)(a:Act)(w:aO):Prop where
 len:au.size=ops.size
 base:af N K a w
 val:∀(j:Nat) o d,ops[j]?=some o->o.dst=some d->au.getD j false=true->∃v,a.tmps[d]?=some v/\(cV j).R w v
structure IT(N m:Nat)(ops:Array Oper)(K:bJ)(cV:Nat->bp)(D:List Deferred)(c6:aO)(au:Array Bool)(a:Act)(w:aO):Prop extends FT N ops K cV au a w where
 defers:a.defers=D
 SP:Below c6.heap.size c6 w
 most:∀j,au.getD j false=true->j<m
 down:∀(j:Nat) o,ops[j]?=some o->au.getD j false=true->∀e∈o.after,Region.binds .any e=true->au.getD e.on false=true
def FT.env{N:Nat}{ops:Array Oper}{K:bJ}{cV:Nat->bp}{au:Array Bool}{a:Act}{w:aO}(h:FT N ops K cV au a w){o:Oper}{acc:bJ}(f:∀s F,acc s=some F->F=cV s)(d:∀e∈o.after,Region.binds .any e=true->au.getD e.on false=true):af N (uv K ops acc o) a w:=by
 refine⟨h.base.size,λs F e=>?_⟩;unfold uv at e;split at e
 .rename_i x b;have h1:=List.find?_some b;have g:=List.mem_of_find?_eq_some b;simp at h1;have hF:=f _ _ e;subst hF;cases c:ops[x.on]? with|none=>grind|some o'=>simp[c]at h1;exact h.val _ o' s c h1.2 (d x AA h1.1)
 .exact h.base.has s F e
theorem FT.put{N:Nat}{ops:Array Oper}{K:bJ}{cV:Nat->bp}{au:Array Bool}{a:Act}{w w1:aO}(h:FT N ops K cV au a w){j:Nat}{o:Oper}{d:Nat}(q:ops[j]?=some o)(hd:o.dst=some d)(a0:d<N)(hK:K d=none)(t:∀i o',ops[i]?=some o'->o'.dst=some d->au.getD i false=true->i=j)(l:Below w.heap.size w w1){v:Value}(p:(cV j).R w1 v):FT N ops K cV (au.setIfInBounds j true) (a.put (some d) v) w1:=by
 have r:j<au.size:=Hh;refine⟨GB,⟨by rw[gu];exact h.base.size,λs F e=>?_⟩,λi o' m f c n=>?_⟩
 .obtain⟨x,k,g⟩:=h.base.has s F e;have b:d≠s:=λx=>AA;exact⟨x,(dP b).trans k,F.hJ _ _ _ l g⟩
 .by_cases e:i=j
  .subst e;rw[q]at f;cases f;rw[hd]at c;cases c;exact⟨v,kt (by rw[h.base.size];exact a0),p⟩
  .have hi:=((rk r).1 n).resolve_left e;obtain⟨x,k,g⟩:=h.val i o' m f c hi;have b:d≠m:=λx=>by subst x;exact e (t i o' f c hi)
   exact⟨x,(dP b).trans k,(cV i).hJ _ _ _ l g⟩
def z5(ops:Array Oper)(j i:Nat):Bool:=match ops[j]? with|some o=>o.after.any λe=>Region.binds .any e&&e.on==i|none=>false
def pB(K:bJ)(l:List Oper):Bool:=l.all λo=>match o.dst with|some d=>(K d).isNone|none=>true
def MQ(ops:Array Oper)(m:Nat):Bool:=
 decide (m<=ops.size)&&
 ((List.range m).all λi=>(List.range m).all λj=>i==j||(ops[i]?).bind (·.dst) != (ops[j]?).bind (·.dst))&&
 ((List.range m).all λi=>m==ops.size||(List.range (m+1)).any λj=>decide (i<j)&&z5 ops j i)&&
 ((List.range ops.size).all λj=>decide (j<=m)||(List.range ops.size).any λe=>decide (m<=e)&&z5 ops j e)&&
 ((List.range ops.size).all λj=>match ops[j]? with|some o=>o.after.all λe=> !Region.binds .any e||decide (e.on<j)|none=>true)&&
 ((List.range (ops.size+1)).all λj=>decide (j<m)||Region.ready .any ops (oQ ops.size j)==if j<ops.size then [j]else [])
section
variable{ops:Array Oper}{m:Nat}
structure Shape(ops:Array Oper)(m:Nat):Prop where
 le:m<=ops.size
 one:∀(i j:Nat) o o' d,i<m->j<m->ops[i]?=some o->ops[j]?=some o'->o.dst=some d->o'.dst=some d->i=j
 anS:m<ops.size->∀i,i<m->∃j,i<j/\j<=m/\z5 ops j i=true
 far:∀j,j<ops.size->m<j->∃e,m<=e/\z5 ops j e=true
 xM:(List.range ops.size).all (λj=>match ops[j]? with|some o=>o.after.all λe=> !Region.binds .any e||decide (e.on<j)|none=>true)=true
 next:∀j,m<=j->j<=ops.size->Region.ready .any ops (oQ ops.size j)=if j<ops.size then [j]else []
theorem Shape.of(h:MQ ops m=true):Shape ops m:=by
 unfold MQ at h;simp only[Bool.and_eq_true,List.all_eq_true,List.mem_range,Bool.or_eq_true,decide_eq_true_eq,beq_iff_eq,bne_iff_ne,List.any_eq_true]at h;obtain⟨⟨⟨⟨⟨h1,f⟩,h3⟩,e⟩,n⟩,l⟩:=h;refine⟨h1,λi j o o' d hi b c k hd g=>?_,λa i hi=>?_,λj b a=>?_,?_,λj a b=>?_⟩
 .grind
 .grind
 .grind
 .grind
 grind
def SR{j i:Nat}(h:z5 ops j i=true):∃o,ops[j]?=some o/\∃e∈o.after,Region.binds .any e=true/\e.on=i:=by grind[z5]
variable{P:cg}{N:Nat}{K K':bJ}{cV:Nat->bp}{D:List Deferred}{c6:aO}{au:Array Bool}{a:Act}{w w1:aO}{Q:Exit->Act->aO->Prop}
theorem IT.put(h:IT N m ops K cV D c6 au a w)(hK:pB K (ops.toList.take m)=true)(hS:Shape ops m){j:Nat}{o:Oper}{d:Nat}(g:j<m)(k:ops[j]?=some o)(hd:o.dst=some d)(a0:d<N)(t:∀e∈o.after,Region.binds .any e=true->au.getD e.on false=true)(l:Below w.heap.size w w1){v:Value}(n:(cV j).R w1 v):IT N m ops K cV D c6 (au.setIfInBounds j true) (a.put (some d) v) w1:=by
 have c:j<au.size:=Hh;refine⟨h.toFT.put k hd a0 (by cases s:K d with|none=>rfl|some F=>grind[pB,List.mem_take_iff_getElem]) (λi o' f q b=>hS.one i j o' o _ (h.most i b) g f k q hd) l n,H4,h.SP.trans (l.mono h.SP.size),λi hi=>?_,λi o' f b e p r=>?_⟩
 .rcases(rk c).1 hi with rfl|hi
  .grind
  .exact h.most i hi
 .refine(rk c).2 (.inr ?_);rcases(rk c).1 b with rfl|hi
  .grind
  .exact h.down i o' f hi e p r
theorem ZX(hS:Shape ops m):∀(k j fuel:Nat)(a:Act)(w:aO),m<=j->j+k=ops.size->k<=fuel->wpOps P ops Q (List.range' j k) a w->wpAny P .any ops Q fuel (oQ ops.size j) a w
 |0,j,fuel,a,w,c,d,_,h=>by have b:=hS.next j c As;rw[if_neg As]at b;cases fuel with|zero=>exact⟨b,h⟩|succ fuel=>exact⟨λ_=>h,λi hi=>AA⟩
 |k+1,j,fuel,a,w,c,d,l,h=>by have b:=hS.next j c As;rw[if_pos As]at b;obtain⟨fuel,rfl⟩:∃f,fuel=f+1:=⟨fuel-1,As⟩;refine⟨λe=>(by rw[b]at e;cases e),λi hi=>?_⟩;rw[b]at hi;simp at hi;subst hi;rw[List.range'_succ,wpOps_cons]at h;rw[ZW As];exact wpOp_mono (λa w g=>ZX hS k (i+1) fuel a w As As As g) h
def anU{id:Nat}{l:Act}(h:z3 P N ops K (ops.toList.take m) 0 (λ_=>none) K K')(hk:af N K l c6)(hK:pB K (ops.toList.take m)=true)(S:P.follows .mixedOrders=true)(U:MQ ops m=true)(k:∀a' w',af N K' a' w'->a'.defers=l.defers->Below c6.heap.size c6 w'->wpOps P ops Q (List.range' m (ops.size-m)) a' w'):(Code.region id ops true).wp P Q l c6:=by
 have hS:=Shape.of U;obtain⟨cV,h1,p⟩:=xL.all h;refine wp_region_any S ?_;have eI:∀fuel(au:Array Bool) a w,au.toList.count false<=fuel->IT N m ops K cV l.defers c6 au a w->(∀j,j<m->au.getD j false=true)->wpAny P .any ops Q fuel au a w:=λfuel au a w W h t=>by
  have e:au=oQ ops.size m:=by
   apply Array.ext (by rw[h.len];simp[oQ]);intro j h1 p;have h3:(oQ ops.size m).getD j false=decide (j<m):=anQ (by rw[<-h.len];exact h1);have Z:au.getD j false=decide (j<m):=by
    by_cases c:j<m
    .grind
    .cases n:au.getD j false with|false=>grind|true=>exact absurd (h.most j n) c
   simp_all
  subst e;refine ZX hS (ops.size-m) m fuel a w J1 (by have:=hS.le;omega) (by grind[anR]) (k a w ⟨h.base.size,λs F e=>?_⟩ h.defers h.SP);rcases p s F e with⟨i,o,V,L,rfl,-⟩|k
  .rw[Nat.zero_add];have C:ops[i]?=some o/\i<m:=by grind
   exact h.val i o s C.1 L (t i C.2)
  .exact h.base.has s F k
 have key:∀(fuel:Nat)(au:Array Bool)(a:Act)(w:aO),au.toList.count false<=fuel->IT N m ops K cV l.defers c6 au a w->wpAny P .any ops Q fuel au a w:=by
  intro fuel;induction fuel with
  |zero=>
   intro au a w D h;refine eI 0 au a w D h λj c=>?_;have:¬au.getD j true=false:=λe=>by grind[count_set]
   have:j<au.size:=by rw[h.len];have:=hS.le;omega
   grind
  |succ fuel M=>
   intro au a w D h;by_cases t:∀j,j<m->au.getD j false=true
   .grind
   have step:∀i,i∈Region.ready .any ops au->i<m:=λi hi=>by
    obtain⟨g1,o,g,q⟩:=mem_ready.1 hi;apply Classical.byContradiction;intro I;have H:i<ops.size:=(Array.getElem?_eq_some_iff.1 g).1;rcases Nat.lt_or_ge m i with E|E
    .obtain⟨e,X,T⟩:=hS.far i H E;obtain⟨o',r,x,b,f,rfl⟩:=SR T;rw[g]at r;cases r;have:=h.most _ (q x b f);omega
    .obtain rfl:i=m:=by omega
     refine t λj c=>?_;have key:∀d j,i-j<=d->j<i->au.getD j false=true:=by
      intro d;induction d with
      |zero=>grind
      |succ d z=>
       intro j h1 p;obtain⟨u,bu,bb,J⟩:=hS.anS H j p;obtain⟨o',r,x,b,f,rfl⟩:=SR J;rcases Nat.lt_or_ge u i with A|A
       .exact h.down u o' r (z u As A) x b f
       grind
     exact key _ j J1 c
   have y:Region.ready .any ops au≠[]:=λR=>t λj c=>ZQ hS.xM h.len R j (by have:=hS.le;omega);refine⟨λe=>absurd e y,λi hi=>?_⟩;have I:=step i hi;obtain⟨g1,o,g,q⟩:=mem_ready.1 hi;obtain⟨d,hd,a0,b⟩:=h1 i o AA;rw[Nat.zero_add]at b;refine anP (b.step (h.env (λs F e=>?_) q) g hd) ?_
   .grind
   .rintro a1 w1 ⟨⟨v,rfl,O⟩,f⟩;exact M _ _ _ (by grind[count_set]) (h.put hK hS I g hd a0 q f O)
 have B:Below c6.heap.size c6 {c6 with drawn:=c6.drawn+1}:=⟨Y,Y,Y,Nat.le_refl _,λ_ _=>Y⟩;refine key _ _ _ _ A_ ⟨⟨A_,hk.hJ B,λj o d _ _ n=>?_⟩,Y,B,λj n=>?_,λj o _ n=>?_⟩;all_goals grind[SN]
def pC{id:Nat}{ks ks':List Item}{Q:Act->aO->Prop}(hk:af N K a w)(h:z3 P N ops K (ops.toList.take m) 0 (λ_=>none) K K')(hK:pB K (ops.toList.take m)=true)(b:P.follows .mixedOrders=true)(c:MQ ops m=true)(k:∀a' w',af N K' a' w'->a'.defers=a.defers->Below w.heap.size w w'->wpOps P ops (jb (bK P ks ks' Q)) (List.range' m (ops.size-m)) a' w'):bK P (.code (.region id ops true)::ks) ks' Q a w:=Cd (anU h hk hK b c k)
end
end aG
namespace fO
open Conc ConcM av bn ah fi hZ
section
section
variable{c:dI}
def apU{Stop:Bool->ah.Lo At->aV->Prop}{mine:Nat->Prop}{f:Nat}{p:List (Nat×Value)}(e9:c.most<=250)(n:∀b,c.K b\/mine b->b≠c.st){w0:aO}{d:Frame}{cs:List Frame}(i:d.mode=.returning)(e:(Conc.G d cs).status=.running)(j:∀w' g,ai (ak (az c)) mine w0 w'->c.N<=g.am.taken->bh (ak (az c)) prog Stop false ⟨.idle,false,0,f,.work .free p⟩ g ⟨Conc.G d cs,w',mine⟩)(w:aO)(γ:ah.aN cx)(k:ai (ak (az c)) mine w0 w)(a0:c.N<=γ.am.taken):
 bh (ak (az c)) prog Stop false ⟨.own,true,0,f+8,.work .free p⟩ γ ⟨Conc.G ((baseD 93).at ⟨#[.pointer (some ⟨c.st,0,none⟩),undef,undef,undef,undef,undef],[]⟩ [.code (f93.body.getD .skip)]) (d::cs),w,mine⟩:=by
 refine bh.seq (Z:=ak (az c)) (Stop':=λ_(l:ah.Lo At) X=>l=(⟨.idle,false,0,f,.work .free p⟩:ah.Lo At)/\∃w',ai (ak (az c)) mine w0 w'/\X=⟨Conc.G d cs,w',mine⟩) (I:=FE c) Mh alV ?_ ?_ (bO.Tw (A:=az c) (bR c) (a:=.work .free p) Lv e9 n i e (λw' g r=>.stop ⟨Y,w',r,Y⟩) w γ k) Y ⟨λh=>h,a0⟩
 .rintro m l X ⟨rfl,_⟩ h;exact h
 .rintro l γ X ⟨rfl,w',r,rfl⟩ hi;exact j w' γ r hi.2
end
end
end fO
namespace iE
open Conc RowKit Conc.Lib ConcR.Gen ConcM av bn ah fi hZ fO
theorem aq6:(f114.name== "runtime.NumGoroutine")=false:=by kernel_rfl
theorem aq7:(f113.name== "runtime.NumGoroutine")=false:=by kernel_rfl
theorem aq8:(f111.name== "runtime.NumGoroutine")=false:=by kernel_rfl
section
variable{c:dI}{Stop:Bool->ah.Lo At->aV->Prop}{fr aU:Nat->Nat}{gq h6:Value}{kq:FuncId}{mP cY:Nat->Value->(Nat->Prop)->aO->Prop}
def aq9{cf:aO}(J:ug c cf prog Stop 114 gq kq h6 fr aU mP cY){f T:Nat}{q:List (Nat×Value)}{M:Nat->Prop}{w0:aO}(P:T<c.N)(Q:pq c cf w0)(N:∀s aT M' w1,af (ak (az c)) M' w1 [] w1->i_ prog Stop false 113 #[.pointer (some ⟨c.st,0,none⟩),.agg #[.int .i64 (T:Int),.int .i64 (fr T:Int),.int .i64 (aU T:Int)],.slice s (c.rows T) aT] (fo c ⟨.idle,false,0,f+16,.work (.has T) q⟩ M' w1) (λu L=>u=.tuple #[]/\L=fo c ⟨.idle,false,0,f,.work .free ((T,.slice s (c.rows T) aT)::q)⟩ M' w1)):
 i_ prog Stop false 86 #[.pointer (some ⟨c.st,0,none⟩),gq,.agg #[.int .i64 (T:Int),.int .i64 (fr T:Int),.int .i64 (aU T:Int)]] (fo c ⟨.idle,false,0,f+16,.work (.has T) q⟩ M w0) (λu L=>u=.tuple #[]/\∃v M' w1,h5 (ak (az c)) M w0 M' w1/\cY T v M' w1/\L=fo c ⟨.idle,false,0,f,.work .free ((T,v)::q)⟩ M' w1):=by
 intro a2 aF aD aI aL aH csZ hK w γ hS;have hF:af (ak (az c)) M w0 [] w:=hS;clear hS;have O:=(dg (bR c)).nh;have U:prog.follows .mixedOrders=true:=BA;rw[enter_at _ func86 Y];unfold fo;rw[<-iF (M:=M)];refine bk (bR c) ?_;walk_nrmf f86
 repeat w_go af.on
 refine g9 Y hF λd b y p a R F A hF=>?_;refine s7 AA O Y hF (stepG_value (v:=.pointer (some ⟨a.heap.size,0,none⟩)) (w':=a.alloc (Obj.cells #[.pointer (some ⟨c.st,0,none⟩)] 127)) Y Y BJ Be) Y Bs (λD=>?_);clear hF;have hF:=D;clear D A F p b;generalize a.heap.size=x at hF⊢;generalize a.alloc (Obj.cells #[.pointer (some ⟨c.st,0,none⟩)] 127)=w3 at hF⊢;refine bk (bR c) ?_;walk_nrm
 repeat w_go af.on
 refine g9 Y hF λd b y p a R F A hF=>?_;refine s7 AA O Y hF (stepG_value (v:=.pointer (some ⟨a.heap.size,0,none⟩)) (w':=a.alloc (Obj.cells #[.int .i64 (T:Int),.int .i64 (fr T:Int),.int .i64 (aU T:Int)] 190)) Y Y BJ Be) Y Bs (λD=>?_);clear hF;have hF:=D;clear D A F p b;generalize a.heap.size=br at hF⊢;generalize a.alloc (Obj.cells #[.int .i64 (T:Int),.int .i64 (fr T:Int),.int .i64 (aU T:Int)] 190)=w3 at hF⊢;refine bk (bR c) ?_;walk_nrm
 repeat w_go af.on
 u_in af.on hF
 rw[al6 Y Y BJ Y Y];simp only[goes_go];refine⟨E4,?_⟩;walk_nrm
 repeat w_go af.on
 refine Goes.stop (λd b=>⟨Y,λy p=>?_⟩);replace hF:=hF.on b;clear b p;have m:=hF.cL (x,Obj.cells #[.pointer (some ⟨c.st,0,none⟩)] 127) A_;have l:=hF.cL (br,Obj.cells #[.int .i64 (T:Int),.int .i64 (fr T:Int),.int .i64 (aU T:Int)] 190) A_;have k:cd M [(br,Obj.cells #[.int .i64 (T:Int),.int .i64 (fr T:Int),.int .i64 (aU T:Int)] 190),(x,Obj.cells #[.pointer (some ⟨c.st,0,none⟩)] 127)] x:=.inr A_;have j:cd M [(br,Obj.cells #[.int .i64 (T:Int),.int .i64 (fr T:Int),.int .i64 (aU T:Int)] 190),(x,Obj.cells #[.pointer (some ⟨c.st,0,none⟩)] 127)] br:=.inr A_;have K:=af.rg hF;refine BC (Z:=ak (az c)) (C:=Mi c (x,Obj.cells #[.pointer (some ⟨c.st,0,none⟩)] 127) (br,Obj.cells #[.int .i64 (T:Int),.int .i64 (fr T:Int),.int .i64 (aU T:Int)] 190)) AA BJ U zM al_ (σ:=fo c ⟨.idle,false,0,f+16,.work (.has T) q⟩ (cd M [(br,Obj.cells #[.int .i64 (T:Int),.int .i64 (fr T:Int),.int .i64 (aU T:Int)] 190),(x,Obj.cells #[.pointer (some ⟨c.st,0,none⟩)] 127)]) d) (hN:=rW prog Stop false _ _ _ _ []) Kj ⟨_,_,_,Y,⟨k,m⟩,⟨j,l⟩,Y⟩ ?_ _ y K;walk_nrm
 refine ja (i:=0) (v:=.pointer (some ⟨c.st,0,none⟩)) zM Y AV AV AV (Mj Kg Y (λw o=>?_)) ⟨_,_,_,Y,⟨k,m⟩,⟨j,l⟩,Y⟩ ?_
 .have B:w.cell? ⟨x,0,none⟩=some (.pointer (some ⟨c.st,0,none⟩)):=by simp[World.cell?,o]
  refine⟨Be,λe r=>⟨0,?_⟩⟩;have t:=mem_listed r;simp[go_sem,B]at t;grind
 walk_nrm
 refine ja (i:=1) (v:=.agg #[.int .i64 (T:Int),.int .i64 (fr T:Int),.int .i64 (aU T:Int)]) zM Y AV AV AV (Mj K1 Y (λw o=>⟨(Ad o Y Y).1,λe r=>?_⟩)) ⟨_,_,_,Y,⟨k,m⟩,⟨j,l⟩,Y⟩ ?_
 .have t:=mem_listed r;rw[(Ad o Y Y).2]at t;grind
 walk_nrm
 refine ja (i:=2) (v:=gq) zM Y AV AV AV (FD Y (λ_=>Be) (λ_=>Bs)) ⟨_,_,_,Y,⟨k,m⟩,⟨j,l⟩,Y⟩ ?_;walk_nrm
 refine ja (i:=3) (v:=.pointer (some ⟨br,1,none⟩)) zM Y AV AV AV (FD Y (λ_=>Be) (λ_=>Bs)) ⟨_,_,_,Y,⟨k,m⟩,⟨j,l⟩,Y⟩ ?_;walk_nrm
 refine ja (i:=4) (v:=.int .i64 (fr T:Int)) zM Y AV AV AV (Mj K1 Y (λw o=>?_)) ⟨_,_,_,Y,⟨k,m⟩,⟨j,l⟩,Y⟩ ?_
 .have B:w.cell? ⟨br,1,none⟩=some (.int .i64 (fr T:Int)):=by simp[World.cell?,o]
  refine⟨Be,λe r=>⟨1,?_⟩⟩;have t:=mem_listed r;simp[go_sem,B]at t;grind
 walk_nrm
 refine ja (i:=5) (v:=.pointer (some ⟨br,2,none⟩)) zM Y AV AV AV (FD Y (λ_=>Be) (λ_=>Bs)) ⟨_,_,_,Y,⟨k,m⟩,⟨j,l⟩,Y⟩ ?_;walk_nrm
 refine ja (i:=6) (v:=.int .i64 (aU T:Int)) zM Y AV AV AV (Mj K1 Y (λw o=>?_)) ⟨_,_,_,Y,⟨k,m⟩,⟨j,l⟩,Y⟩ ?_
 .have B:w.cell? ⟨br,2,none⟩=some (.int .i64 (aU T:Int)):=by simp[World.cell?,o]
  refine⟨Be,λe r=>⟨2,?_⟩⟩;have t:=mem_listed r;simp[go_sem,B]at t;grind
 walk_nrm
 refine r6 (i:=7) AV (zL Y Y (zN (λw=>R3 (rv:=gq) (vs:=#[.int .i64 (fr T:Int),.int .i64 (aU T:Int)]) Y Y D5 (J.inv #[.int .i64 (fr T:Int),.int .i64 (aU T:Int)] w)) (J.ama T ⟨.idle,false,0,f+16,.work (.has T) q⟩ _ _ P Y K (Q.mq hF)) ?_));rintro u _ ⟨X,w1,g,E,rfl⟩;refine⟨⟨_,_,_,Y,⟨g.sub _ k,g.heap k m⟩,⟨g.sub _ j,g.heap j l⟩,Y⟩,?_⟩;walk_nrm
 refine r6 (i:=8) AV (zL Y Y (zN (λw=>rh (vs:=#[u]) Y func114 aq6 Y D5 w) (J.amb T ⟨.idle,false,0,f+16,.work (.has T) q⟩ _ _ u P Y g.mq ((Q.mq hF).more g) E) ?_));rintro v _ ⟨H,I,n,S,rfl⟩;refine⟨⟨_,_,_,Y,⟨n.sub _ (g.sub _ k),n.heap (g.sub _ k) (g.heap k m)⟩,⟨n.sub _ (g.sub _ j),n.heap (g.sub _ j) (g.heap j l)⟩,Y⟩,?_⟩;obtain⟨s,aT,rfl⟩:=J.slice _ _ _ _ S;walk_nrm
 refine r6 (i:=9) AV (zL Y Y (zN (λw=>rh (vs:=#[.pointer (some ⟨c.st,0,none⟩),.agg #[.int .i64 (T:Int),.int .i64 (fr T:Int),.int .i64 (aU T:Int)],.slice s (c.rows T) aT]) Y func113 aq7 Y D5 w) (N s aT H I n.mq) ?_));rintro u2 _ ⟨rfl,rfl⟩;refine⟨⟨_,_,_,Y,⟨n.sub _ (g.sub _ k),n.heap (g.sub _ k) (g.heap k m)⟩,⟨n.sub _ (g.sub _ j),n.heap (g.sub _ j) (g.heap j l)⟩,Y⟩,?_⟩;walk_nrm
 refine BB AV ?_ _;have V:=(h5.start hF g).trans n;clear g n E K k j m l hF N;intro z W hF;replace hF:af (ak (az c)) H I [] z:=hF;unfold fo;rw[<-iF (M:=H)];refine bk (bR c) ?_;walk_nrm
 repeat w_go af.on
 u_in af.on hF
 rw[al7 Y func111 aq8 Y];simp only[goes_go];refine⟨E4,?_⟩;walk_nrmf f111
 repeat w_go af.on
 u_in af.on hF
 rw[al8 Y Y Y Y Be Bs];simp only[goes_go];refine⟨E4,?_⟩;walk_nrm
 repeat w_go af.on
 refine g9 Y hF λd b y p a R F A hF=>?_;refine R1 AA (stepG_value (v:=.bool false) Y Y BJ (by simp[go_sem])) Y Fg ?_;clear A F p b;refine bk (bR c) ?_;walk_nrm
 repeat w_go af.on
 u_in af.on hF
 refine bO.Jk Y Y func111 Y Y ⟨E4,?_⟩;u_in af.on hF
 refine goes_leave0 Y Y func86 Y ⟨E4,?_⟩;refine Goes.stop (λd b=>⟨Y,λy p=>?_⟩);replace hF:=hF.on b;rw[iF];exact hK (.tuple #[]) (fo c ⟨.idle,false,0,f,.work .free ((T,.slice s (c.rows T) aT)::q)⟩ H I) AA d y hF
end
end iE
namespace aG
open Conc ConcM RowKit av bn cz c5
section
variable{O:gW}
def n5(T:TypeId)(w w':aO):Prop:=w.heap.size<=w'.heap.size/\∀(b:Nat) c e z,w.heap[b]?=some (.cells c e z)->∃c',w'.heap[b]?=some (.cells c' e z)/\c'.size=c.size/\(e≠T->c'=c)
def n6(T:TypeId)(F:bp):Prop:=∀w w' v,n5 T w w'->F.R w v->F.R w' v
structure nu where
 g:Nat
 pos:Nat->Bool
 nv:Nat->Bool
 jw:List (Nat×TypeId×Nat)
def nu.st(S:nu)(j:Nat):Option (TypeId×Nat):=(S.jw.find? λp=>p.1==j).map (·.2)
def qI(S:nu)(j:Nat)(o:Oper):Option Nat:=match S.st j with|some p=>some p.2|none=>o.dst
def Qt(nv:Nat->Bool)(acc:bJ):bJ:=λs=>if nv s then acc s else none
def Uq(L K:bJ):bJ:=λs=>match L s with|some F=>some F|none=>K s
def asq{N:Nat}{L K:bJ}{a:Act}{w:aO}(h1:af N L a w)(b:af N K a w):af N (Uq L K) a w:=⟨h1.size,λs F e=>by
 unfold Uq at e;split at e
 .cases e;exact h1.has s _ AA
 .exact b.has s F e⟩
def NJ(P:cg)(N n0:Nat)(E:bJ)(o:Oper)(p:TypeId×Nat)(F:bp):Prop:=o.guard=none/\o.dst=none/\∀a w,af N E a w->∃w',(execOp a.eval o).run P w=.ok .skip w'/\n5 p.1 w w'/\Below n0 w w'/\∃v,a.tmps[p.2]?=some v/\F.R w' v
def yD(S:nu)(ops:Array Oper)(L K:bJ)(j:Nat)(acc:bJ)(o:Oper):bJ:=if S.pos j then uv K ops (Qt S.nv acc) o else uv (Uq L K) ops acc o
def asr(P:cg)(N n0:Nat)(ops:Array Oper)(E:bJ)(o:Oper)(F:bp):Prop:=(sj ops E o true/\∀a w,n0<=w.heap.size->af N E a w->we P o F a w)\/(sj ops E o false/\F=oP)
def Ah(P:cg)(N n0:Nat)(ops:Array Oper)(S:nu)(eu:bp)(oV:bJ->Prop)(j:Nat)(E:bJ)(o:Oper)(F:bp):Prop:=
 match S.st j with
 |some p=>j≠S.g/\NJ P N n0 E o p F
 |none=>j=S.g/\oV E/\F=eu\/j≠S.g/\asr P N n0 ops E o F
abbrev sx(P:cg)(N n0:Nat)(ops:Array Oper)(S:nu)(L K:bJ)(eu:bp)(oV:bJ->Prop):List Oper->Nat->bJ->bJ->bJ->Prop:=
 xL (qI S) S.nv (λj acc o F=>F.ok n0/\(S.nv j=true->∀p∈S.jw,p.1≠j->n6 p.2.1 F)/\Ah P N n0 ops S eu oV j (yD S ops L K j acc o) o F) N
section
variable{P:cg}{N n0:Nat}{ops:Array Oper}{S:nu}{L K K':bJ}{eu:bp}{oV:bJ->Prop}{o:Oper}{l:List Oper}{j:Nat}{acc gg:bJ}{d:Nat}{F:bp}
def hn(hd:o.dst=some d)(c:∀a w,n0<=w.heap.size->af N (yD S ops L K j acc o) a w->we P o F a w)(h:sx P N n0 ops S L K eu oV l (j+1) (up acc j F) (if S.nv j then up gg d F else gg) K')(hs:S.nv j=true->∀p∈S.jw,p.1≠j->n6 p.2.1 F:=by first|(intro h;cases h;done)|(intro _ _ h;cases h;done))(hg:o.guard=none:=by rfl)(a0:d<N:=by decide)(h1:j≠S.g:=by decide)(b:S.st j=none:=by rfl)(hok:F.ok n0:=by first|exact trivial|exact rfl):sx P N n0 ops S L K eu oV (o::l) j acc gg K':=⟨d,by unfold qI;rw[b];exact hd,a0,F,⟨hok,hs,by unfold Ah;rw[b];exact .inr ⟨h1,.inl ⟨JG,c⟩⟩⟩,h⟩
def hq(hd:o.dst=some d)(b:bG P N (yD S ops L K j acc o) o F)(h:sx P N n0 ops S L K eu oV l (j+1) (up acc j F) (if S.nv j then up gg d F else gg) K')(hs:S.nv j=true->∀p∈S.jw,p.1≠j->n6 p.2.1 F:=by first|(intro h;cases h;done)|(intro _ _ h;cases h;done))(hg:o.guard=none:=by rfl)(a0:d<N:=by decide)(h1:j≠S.g:=by decide)(c:S.st j=none:=by rfl)(hok:F.ok n0:=by first|exact trivial|exact rfl):sx P N n0 ops S L K eu oV (o::l) j acc gg K':=hn hd (λa w _ h=>b a w h) h hs hg a0 h1 c hok
def hg(hd:o.dst=some d)(b:oV (yD S ops L K j acc o))(h:sx P N n0 ops S L K eu oV l (j+1) (up acc j eu) (if S.nv j then up gg d eu else gg) K')(hs:S.nv j=true->∀p∈S.jw,p.1≠j->n6 p.2.1 eu:=by first|(intro h;cases h;done)|(intro _ _ h;cases h;done))(a0:d<N:=by decide)(h1:j=S.g:=by rfl)(a:S.st j=none:=by rfl)(hok:eu.ok n0:=by exact trivial):sx P N n0 ops S L K eu oV (o::l) j acc gg K':=⟨d,by unfold qI;rw[a];exact hd,a0,eu,⟨hok,hs,by unfold Ah;rw[a];exact .inl ⟨h1,b,Y⟩⟩,h⟩
def hk{B:TypeId->Prop}(hd:o.dst=some d)(a:bG P N (yD S ops L K j acc o) o F)(hs:∀T,B T->n6 T F)(c:∀p∈S.jw,B p.2.1)(h:sx P N n0 ops S L K eu oV l (j+1) (up acc j F) (if S.nv j then up gg d F else gg) K')(hg:o.guard=none:=by rfl)(a0:d<N:=by decide)(h1:j≠S.g:=by decide)(e:S.st j=none:=by rfl)(hok:F.ok n0:=by first|exact trivial|exact rfl):sx P N n0 ops S L K eu oV (o::l) j acc gg K':=hq hd a h (λ_ p b _=>hs _ (c p b)) hg a0 h1 e hok
def hst{p:TypeId×Nat}(a:S.st j=some p)(b:NJ P N n0 (yD S ops L K j acc o) o p F)(h:sx P N n0 ops S L K eu oV l (j+1) (up acc j F) (if S.nv j then up gg p.2 F else gg) K')(hs:S.nv j=true->∀p∈S.jw,p.1≠j->n6 p.2.1 F:=by first|(intro h;cases h;done)|(intro _;decide))(a0:p.2<N:=by decide)(h1:j≠S.g:=by decide)(hok:F.ok n0:=by exact Y):sx P N n0 ops S L K eu oV (o::l) j acc gg K':=⟨p.2,by unfold qI;rw[a],a0,F,⟨hok,hs,by unfold Ah;rw[a];exact⟨h1,b⟩⟩,h⟩
end
def JA{S:nu}{j x:Nat}{T:TypeId}{F:bp}(h:S.jw=[(j,T,x)]):∀p∈S.jw,p.1≠j->n6 p.2.1 F:=by rw[h];intro p b a;simp at b;subst b;exact absurd Y a
def DR(S:nu)(au:Array Bool):Prop:=∀p∈S.jw,au.getD p.1 false=false
structure l4(N:Nat)(ops:Array Oper)(S:nu)(L Q:bJ)(cV:Nat->bp)(au:Array Bool)(a:Act)(w:aO):Prop where
 len:au.size=ops.size
 size:a.tmps.size=N
 xM:∀p∈S.jw,au.getD p.1 false=true->∀i,i<ops.size->S.pos i=false->i≠p.1->au.getD i false=true
 loc:DR S au->af N L a w
 Gq:af N Q a w
 val:∀(j:Nat) o d,ops[j]?=some o->qI S j o=some d->au.getD j false=true->DR S au\/S.nv j=true->∃v,a.tmps[d]?=some v/\(cV j).R w v
structure lZ(ops:Array Oper)(S:nu)(L Q K:bJ):Prop where
 one:∀(i j:Nat) o o' d,ops[i]?=some o->ops[j]?=some o'->qI S i o=some d->o'.dst=some d->S.st j=none->i=j\/S.pos j=false/\∃p∈S.jw,p.1=i
 l:∀(i:Nat) o d,ops[i]?=some o->o.dst=some d->L d=none/\Q d=none/\K d=none
 x:∀p∈S.jw,S.st p.1=some p.2/\p.1<ops.size/\(∀i,i<ops.size->S.pos i=false->i≠p.1->z5 ops p.1 i=true)/\∀q∈S.jw,q.2.2=p.2.2->q=p
 sd:∀(j:Nat) o q,S.st j=some q->ops[j]?=some o->o.dst=none
 g:S.pos S.g=false/\S.st S.g=none
 xM:(List.range ops.size).all (λj=>match ops[j]? with|some o=>o.after.all λe=> !Region.binds .any e||decide (e.on<j)|none=>true)=true
def JB(ops:Array Oper)(S:nu):Bool:=
 ((List.range ops.size).all λi=>(List.range ops.size).all λj=>i==j||(ops[j]?).bind (·.dst)==none||(S.st j).isSome||(ops[i]?).bind (qI S i) != (ops[j]?).bind (·.dst)||(!S.pos j&&S.jw.any λp=>p.1==i))&&
 (S.jw.all λp=>S.st p.1==some p.2&&decide (p.1<ops.size)&&((List.range ops.size).all λi=>S.pos i||i==p.1||z5 ops p.1 i)&&S.jw.all λq=>q.2.2 != p.2.2||q==p)&&
 ((List.range ops.size).all λj=>S.st j==none||(ops[j]?).bind (·.dst)==none)&&
 (!S.pos S.g&&S.st S.g==none)&&
 ((List.range ops.size).all λj=>match ops[j]? with|some o=>o.after.all λe=> !Region.binds .any e||decide (e.on<j)|none=>true)
theorem lZ.of{ops:Array Oper}{L Q K:bJ}{S:nu}(h:JB ops S=true)(f:pB L ops.toList=true)(c:pB Q ops.toList=true)(hK:pB K ops.toList=true):lZ ops S L Q K:=by
 unfold JB at h;simp only[Bool.and_eq_true,List.all_eq_true,List.mem_range,Bool.or_eq_true,beq_iff_eq,bne_iff_ne,Bool.not_eq_true',decide_eq_true_eq,List.any_eq_true]at h;obtain⟨⟨⟨⟨h1,l⟩,m⟩,h3⟩,e⟩:=h;have b:∀{K:bJ},pB K ops.toList=true->∀(i:Nat) o d,ops[i]?=some o->o.dst=some d->K d=none:=λhK i o d a hd=>by unfold pB at hK;rw[List.all_eq_true]at hK;have:=hK o (Array.mem_toList_iff.2 (Array.mem_of_getElem? a));simp_all
 refine⟨λi j o o' d hi k n dj hs=>?_,λi o d a hd=>⟨b f i o d a hd,b c i o d a hd,b hK i o d a hd⟩,λp g=>?_,λj o q hq a=>?_,h3,by simpa using e⟩
 .grind
 .grind
 .grind
section
variable{P:cg}{N n0:Nat}{ops:Array Oper}{S:nu}{L Q K:bJ}{cV:Nat->bp}{au:Array Bool}{a:Act}{w w1:aO}
def Qs(p:∀s F,L s=some F->F.ok n0)(f:∀s F,Q s=some F->F.ok n0)(hF:∀j,j<ops.size->(cV j).ok n0):pz n0 (l4 N ops S L Q cV au):=by intro ρ a a' w w' c b h;refine⟨h.len,by rw[<-b.size];exact h.size,h.xM,λq=>jP n0 p ρ a a' w w' c b (h.loc q),jP n0 f ρ a a' w w' c b h.Gq,λj o d h1 n h3 m=>?_⟩;obtain⟨v,l,k⟩:=h.val j o d h1 n h3 m;obtain⟨e,i,g⟩:=b.some l;exact⟨e,i,(cV j).j3 _ (hF j (Array.getElem?_eq_some_iff.1 h1).1) _ _ _ _ _ c g k⟩
def l4.start(h:af N L a w)(hq:af N Q a w):l4 N ops S L Q cV (Array.replicate ops.size false) a w:=⟨A_,h.size,λp _ q=>by grind[SN],λ_=>h,hq,λj o d _ _ q=>by grind[SN]⟩
def l4.ass(d:lZ ops S L Q K)(h:l4 N ops S L Q cV au a w){i:Nat}(h1:i<ops.size)(c:S.pos i=false)(h3:au.getD i false=false):DR S au:=λp b=>by
 cases e:au.getD p.1 false with
 |false=>rfl
 |true=>
  by_cases hi:i=p.1
  .grind
  .rw[h.xM p b e i h1 c hi]at h3;cases h3
def l4.env(g:lZ ops S L Q K)(h:l4 N ops S L Q cV au a w)(hK:af N K a w){i:Nat}{o:Oper}(b:ops[i]?=some o)(j:au.getD i false=false)(k:∀e∈o.after,Region.binds .any e=true->au.getD e.on false=true):af N (yD S ops L K i (λs=>if 0<=s/\s<i then some (cV s)else none) o) a w:=by
 have d:i<ops.size:=(Array.getElem?_eq_some_iff.1 b).1;have key:∀B acc,af N B a w->(∀s F,acc s=some F->F=cV s/\(DR S au\/S.nv s=true))->af N (uv B ops acc o) a w:=λB acc l m=>⟨h.size,λs F e=>by
  unfold uv at e;split at e
  .rename_i x f;have h1:=List.find?_some f;have n:=List.mem_of_find?_eq_some f;simp at h1;obtain⟨rfl,hF⟩:=m _ _ e;cases b:ops[x.on]? with
   |none=>grind
   |some o'=>
    simp[b]at h1;refine h.val _ o' s b ?_ (k x AA h1.1) hF;unfold qI;split
    .rename_i p c;rw[g.sd _ _ _ c b]at h1;cases h1.2
    .exact h1.2
  .exact l.has s F e⟩
 unfold yD;split
 .refine key K _ hK λs F e=>?_;unfold Qt at e;grind
 .rename_i c;have h0:=h.ass g d (by simpa using c) j;exact key _ _ (asq (h.loc h0) hK) λs F e=>AA
def Ur(b:lZ ops S L Q K){i:Nat}(hs:S.st i=none){p:Nat×TypeId×Nat}(a:p∈S.jw):i≠p.1:=λe=>by rw[e,(b.x p a).1]at hs;cases hs
def Us{au:Array Bool}{i j:Nat}(h:i≠j):(au.setIfInBounds i true).getD j false=au.getD j false:=by simp_all
def P7{N:Nat}{K:bJ}{a:Act}{w w1:aO}(h:af N K a w){d:Nat}(hd:K d=none)(f:Below w.heap.size w w1){v:Value}:af N K (a.put (some d) v) w1:=⟨H7,λs F e=>by
 obtain⟨x,c,b⟩:=h.has s F e;exact⟨x,(dP λx=>AA).trans c,F.hJ _ _ _ f b⟩⟩
theorem l4.put(f:lZ ops S L Q K)(h:l4 N ops S L Q cV au a w){i:Nat}{o:Oper}{d:Nat}(g:ops[i]?=some o)(hd:o.dst=some d)(hs:S.st i=none)(a0:d<N)(m:au.getD i false=false)(l:Below w.heap.size w w1){v:Value}(u:(cV i).R w1 v):l4 N ops S L Q cV (au.setIfInBounds i true) (a.put (some d) v) w1:=by
 have hi:i<au.size:=Hh;have hn:DR S (au.setIfInBounds i true)↔DR S au:=⟨λq p b=>(Us (Ur f hs b))▸q p b,λq p b=>(Us (Ur f hs b)).trans (q p b)⟩;refine⟨GB,H7,λp b q j h1 c h3=>?_,λq=>P7 (h.loc (hn.1 q)) (f.l i o d g hd).1 l,P7 h.Gq (f.l i o d g hd).2.1 l,λj o' r h1 c h3 y=>?_⟩
 .rw[Us (Ur f hs b)]at q;exact(rk hi).2 (.inr (h.xM p b q j h1 c h3))
 .by_cases e:j=i
  .subst e;rw[g]at h1;cases h1;unfold qI at c;rw[hs]at c;rw[hd]at c;cases c;exact⟨v,kt (by rw[h.size];exact a0),u⟩
  .have n:=((rk hi).1 h3).resolve_left e;obtain⟨x,t,s⟩:=h.val j o' r h1 c n (y.imp hn.1 id);have k:d≠r:=λx=>by
    subst x;rcases f.one j i o' o d h1 g c hd hs with q|⟨q,p,b,rfl⟩
    .exact e q
    .rw[h.xM p b n i (by rw[<-h.len];exact hi) q (Ne.symm e)]at m;cases m
   exact⟨x,(dP k).trans t,(cV j).hJ _ _ _ l s⟩
theorem l4.store(D:lZ ops S L Q K)(h:l4 N ops S L Q cV au a w){p:Nat×TypeId×Nat}(k:p∈S.jw){o:Oper}(A:ops[p.1]?=some o)(t:∀e∈o.after,Region.binds .any e=true->au.getD e.on false=true)(n:n5 p.2.1 w w1)(hst:∀j,j<ops.size->S.nv j=true->p.1≠j->n6 p.2.1 (cV j))(M:∀s F,Q s=some F->∀p∈S.jw,n6 p.2.1 F){v:Value}(e:a.tmps[p.2.2]?=some v)(y:(cV p.1).R w1 v):l4 N ops S L Q cV (au.setIfInBounds p.1 true) a w1:=by
 obtain⟨J,dA,H,-⟩:=D.x p k;have hi:p.1<au.size:=by rw[h.len];exact dA
 have m:(au.setIfInBounds p.1 true).getD p.1 false=true:=(rk hi).2 Kg;have hn:¬DR S (au.setIfInBounds p.1 true):=λq=>by rw[q p k]at m;cases m
 refine⟨GB,h.size,λq hq z j h1 b h3=>(rk hi).2 ?_,λq=>absurd q hn,⟨h.size,λs F d=>by
  obtain⟨x,i,g⟩:=h.Gq.has s F d;exact⟨x,i,M s F d p k _ _ _ n g⟩⟩,λj o' I h1 b h3 E=>?_⟩
 .by_cases c:j=p.1
  .exact .inl c
  rcases(rk hi).1 z with z|z
  .obtain⟨o',r,e,B,C,rfl⟩:=SR (H j h1 b c);rw[A]at r;cases r;exact .inr (t e B C)
  .exact .inr (h.xM q hq z j h1 b h3)
 .have l:=E.resolve_left hn;by_cases f:j=p.1
  .subst f;unfold qI at b;rw[J]at b;cases b;exact⟨v,e,y⟩
  .obtain⟨u,i,g⟩:=h.val j o' I h1 b (((rk hi).1 h3).resolve_left f) (.inr l);exact⟨u,i,hst j (Array.getElem?_eq_some_iff.1 h1).1 l (Ne.symm f) _ _ _ n g⟩
def PT{j:Nat}{q:TypeId×Nat}(h:S.st j=some q):(j,q)∈S.jw:=by unfold nu.st at h;obtain⟨p,h1,rfl⟩:=Option.map_eq_some_iff.1 h;have:=List.find?_some h1;have:=List.mem_of_find?_eq_some h1;grind
theorem l4.step{eu:bp}{oV:bJ->Prop}(n:lZ ops S L Q K)(T:∀s F,Q s=some F->∀p∈S.jw,n6 p.2.1 F)(u:∀(j:Nat) o,ops[j]?=some o->∃d,qI S j o=some d/\d<N/\(cV j).ok n0/\(S.nv j=true->∀p∈S.jw,p.1≠j->n6 p.2.1 (cV j))/\Ah P N n0 ops S eu oV j (yD S ops L K j (λs=>if 0<=s/\s<j then some (cV s)else none) o) o (cV j))(h:l4 N ops S L Q cV au a w)(hK:af N K a w){i:Nat}{o:Oper}(y:i≠S.g)(r:n0<=w.heap.size)(l:au.getD i true=false)(b:ops[i]?=some o)(t:∀e∈o.after,Region.binds .any e=true->au.getD e.on false=true):
 wpOps P ops (jb λa1 w1=>((∃d v,o.dst=some d/\a1=a.put (some d) v)\/a1=a)/\l4 N ops S L Q cV (au.setIfInBounds i true) a1 w1/\Below n0 w w1) [i] a w:=by
 have l:au.getD i false=false:=AA;obtain⟨d,h1,J,h3,U,f⟩:=u i o b;have k:=h.env n hK b l t;unfold Ah at f;unfold qI at h1;cases hs:S.st i with
 |some q=>
  simp only[hs]at f;obtain⟨-,g1,c,M⟩:=f;obtain⟨w',D,C,B,v,A,O⟩:=M a w k;exact wb b g1 c D ⟨.inr Y,h.store n (p:=(i,q)) (PT hs) b t C (λj I H m=>by
   obtain⟨-,-,-,-,z,-⟩:=u j _ (Array.getElem?_eq_getElem I);exact z H _ (PT hs) m) T A O,B⟩
 |none=>
  simp only[hs]at f h1;obtain⟨q,-⟩|⟨-,g⟩:=f
  .exact absurd q y
  refine jO (R:=λa1 w1=>(∃v,a1=a.put (some d) v/\(cV i).R w1 v)/\Below w.heap.size w w1) (by
   rcases g with⟨g1,c⟩|⟨g1,c⟩
   .exact ZV b (g1.is k) h1 (c a w r k)
   .exact ZT b (g1.is k) h1 ⟨⟨undef,Y,by rw[c];rfl⟩,Below.refl _ _⟩) ?_
  rintro a1 w1 ⟨⟨v,rfl,E⟩,x⟩;exact⟨Y,.inl ⟨d,v,h1,Y⟩,h.put n b h1 hs J l x E,x.mono r⟩
def l4.eI(l:lZ ops S L Q K)(h:l4 N ops S L Q cV au a w)(hK:af N K a w)(j:Region.ready .any ops au=[]){K' gg:bJ}(g:∀s F,gg s=some F->K s=some F\/S.jw=[]/\L s=some F)(m:∀s F,K' s=some F->(∃i o,ops.toList[i]?=some o/\qI S (0+i) o=some s/\F=cV (0+i)/\S.nv (0+i)=true)\/gg s=some F):af N K' a w:=⟨h.size,λs F e=>by
 have hdone:=ZQ l.xM h.len j;rcases m s F e with⟨i,o,b,d,rfl,c⟩|k
 .rw[Nat.zero_add]at d c⊢;have b:ops[i]?=some o:=AA;exact h.val i o s b d (hdone i (Array.getElem?_eq_some_iff.1 b).1) (.inr c)
 .rcases g s F k with k|⟨n,k⟩
  .exact hK.has s F k
  .exact(h.loc λp f=>by rw[n]at f;cases f).has s F k⟩
end
section
variable{P:cg}{Post:Value->aO->Prop}{n n0:Nat}{Shun:Loc->Prop}{M aX:Nat->Prop}{w w0:aO}{f:FuncId}{a:Act}{k:List Item}{cs:List Frame}{N:Nat}{L Q K':bJ}{ops:Array Oper}{S:nu}
def NR{id:Nat}(hC:(cU P).Good)(X:P.follows .mixedOrders=true)(hf:kY P f)(hk:(Item.inRegion ops []::k).all (fX P)=true)(aM:∀s F,L s=some F->F.ok n0)(D:∀s F,Q s=some F->F.ok n0/\∀p∈S.jw,n6 p.2.1 F)(gJ:JB ops S=true)(Uu:pB L ops.toList=true)(g:pB Q ops.toList=true){c:Oper}{d:Nat}{gf:FuncId}{dG:Func}{gV:Code}{args:Array Operand}{ats:Array TypeId}(l:ops[S.g]?=some c)(B:c.op=.call {callee:=.value (.func gf),args,argTypes:=ats})(U:P.funcs[gf]?=some dG)(lr:(dG.name== "runtime.NumGoroutine")=false)(hb:dG.body=some gV)(fK:c.guard=none)(hn:n+16*d<=200){cZ:Tmp}(A:c.dst=some cZ){eu:bp}{gg:bJ}(hq:sx (ae P true) N n0 ops S L Q eu (λE=>∀a M w Shun,Home O P M Shun w->af N E a w->aS (cq M) a.tmps a.tmps->jN O P Post gf (args.map a.eval) M w d (λu _ w'=>eu.R w' u/\ea M w w')) ops.toList 0 (λ_=>none) gg K')(T:S.jw=[]/\gg=L\/gg=Q)(H:Held O P aX w0 n0 a M w Shun)(h0:af N L a w)(nH:af N Q a w)(jk:∀a M' w' m y,af N K' a w'->m<=n+16*d->Held O P aX w0 n0 a M' w' y->bS P Post m y 0 (aZ ((base f).at a (.inRegion ops []::k)) cs) w'):
 bS P Post n Shun 0 (aZ ((base f).at a (.code (.region id ops true)::k)) cs) w:=by
 obtain⟨cV,h1,h2⟩:=xL.all hq;have b:=lZ.of (K:=Q) gJ Uu g g;have cQ:∀(j:Nat) o,ops[j]?=some o->_:=λj o J=>h1 j o AA;simp only[Nat.zero_add]at cQ;have Uv:∀j,j<ops.size->(cV j).ok n0:=λj hj=>by obtain⟨d',-,-,q,-⟩:=cQ j _ (Array.getElem?_eq_getElem hj);exact q
 obtain⟨ast,x,R,-,-,C⟩:=cQ S.g c l;unfold Ah at C;unfold qI at x;simp only[b.g.2]at C x;rw[A]at x;cases x;obtain⟨-,f_,h8⟩:_/\_/\cV S.g=eu:=C.resolve_right λh=>absurd Y h.1;refine anH hC X hf hk S.g l B U lr hb fK hn (I:=l4 N ops S L Q cV) (λau=>Qs aM (λs F e=>(D s F e).1) Uv) A (λau a w h=>by rw[h.size];exact R) (np:=eu.R) (λau a w h=>h.len) H (l4.start h0 nH) ?_ ?_ ?_ ?_
 .intro au a W i o h hd hW V kO J r;refine jO (h.step b (λs F e=>(D s F e).2) cQ h.Gq V hW kO J r) λa1 w1⟨bu,bb,Z⟩=>⟨Y,?_,bb,Z⟩;rcases bu with⟨d',v,-,rfl⟩|rfl
  .rw[put_defers];exact hd
  .exact hd
 .intro au a M w Shun t h z r;exact f_ a M w Shun t.fF (h.env b h.Gq l z r) t.all
 .intro au a w u h z r hu;exact h.put b l A b.g.2 R z (Below.refl _ _) (by rw[h8];exact hu)
 .intro au a M' w' m y h hr kN t;exact jk a M' w' m y (h.eI b h.Gq hr (λs F e=>by rcases T with⟨k1,rfl⟩|rfl;exact .inr ⟨k1,e⟩;exact .inl e) h2) kN t
end
end
end aG
namespace aG
def Ob{l:List Value}{n:Nat}(h:l.length=n+1):∃x a,l=x::a/\a.length=n:=by cases l<;>grind
def avh{a:Act}(h:a.tmps.size=40)(hd:a.defers=[]):∃f i dA g gM c P e b N E D C B A z y x w v u d t O s r q p o n m k j M L K J I H F,a=⟨#[f,i,dA,g,gM,c,P,e,b,N,E,D,C,B,A,z,y,x,w,v,u,d,t,O,s,r,q,p,o,n,m,k,j,M,L,K,J,I,H,F],[]⟩:=by
 obtain⟨⟨l⟩,ds⟩:=a;cases hd;iterate 40
  rcases l with _ |⟨_,l⟩
  .simp at h
 rcases l with _ |⟨_,l⟩
 .iterate 40 apply Exists.intro
  rfl
 .simp at h
section
open Conc ConcM RowKit av bn cz c5 kZ
variable{O:gW}
section
variable{P:cg}{Post:Value->aO->Prop}{n:Nat}{Shun:Loc->Prop}{M:Nat->Prop}{w:aO}{f:FuncId}{a b:Act}{k k':List Item}{cs:List Frame}{n0:Nat}{aX:Nat->Prop}{w0:aO}
theorem mr.act{D:fc}(hd:D.d=cs.length){g:Goroutine}(h:mr P D (aZ ((base f).at a k) cs) g):∃b,g=aZ ((base f).at b k) cs/\fp D a b:=by
 generalize c:aZ ((base f).at a k) cs=g0 at h;cases h with
 |same g e=>grind[aZ]
 |gt h v=>cases c;obtain⟨b,rfl,d⟩:=eL.act h;exact⟨b,Y,d⟩
 |under a h=>cases c;have:=h.lt;omega
def J5(l:(cU P).Good)(hF:P.follows .rangeFuncRecover=true)(v:kY P f){D:fc}(hd:D.d=cs.length)(u:zY P D f)(A:fp D a b)(q:k.all (gX D)=true)(H:Held O P aX w0 n0 a M w Shun)(hk:k.all (fX P)=true)(C:k'.all (fX P)=true){I J:Act->aO->Prop}(y:pz n0 I)(z:pz n0 J)(h0:I a w)(hrun:∀W,n0<=W.heap.size->I a W->bK (ae P true) k k' (λa1 w1=>a1.defers=[]/\J a1 w1/\Below n0 W w1) a W)(B:∀a' d M' w',Held O P aX w0 n0 a' M' w' Shun->fp D a' d->J a' w'->bS P Post n Shun 0 (aZ ((base f).at d k') cs) w'):
 bS P Post n Shun 0 (aZ ((base f).at b k) cs) w:=by
 refine SB l hF (D:=D) H.fF (f:=f) (cs0:=[]) (bs:=cs) (g:=aZ ((base f).at b k) cs) As (.gt (A.SC f k) (u.bg q a) cs hd.symm _ _) (IK l v H.all H.defers hk) .nil ⟨Y,Y⟩ (R:=λp cse c j=>cse=[]/\∃a1,p=(base f).at a1 k'/\a1.defers=[]/\J a1 j/\∃T,Below n0 {c with tape:=T} j) (λc e T=>?_) ?_
 .obtain⟨a1,w1,⟨h1,o,h3⟩,m⟩:=hrun {c with tape:=T} JH (y _ _ _ _ _ (H.fF.lV e T) H.all h0) (base f) [ey f];grind
 .rintro ρ p cse c j E F w' g' e ⟨rfl,a1,rfl,s,h1,T,o⟩ t h i r;cases h;obtain⟨a',rfl,h3,m⟩:=IL s C t;obtain⟨d,rfl,x⟩:=mr.act hd r;exact B a' d (px ρ) w' (H.next e i o (i.all h3) m) x (z _ _ _ _ _ (i.lV H.size) h3 h1)
variable{ops:Array Oper}{i:Nat}{rest:List Nat}{o:Oper}
theorem fp.put{D:fc}(h:fp D a b){d:Tmp}(f:D.T d=false)(hK:D.K d=false)(u:Value):fp D (a.put (some d) u) (b.put (some d) u):=by
 refine⟨by rw[gu,gu];exact h.size,λi hi=>?_,λi v hi e=>?_,λi hi=>?_,by rw[put_defers,put_defers];exact h.defers⟩
 .simp[Act.put,Array.getElem?_setIfInBounds,h.size,h.same i hi]
 .have c:d≠i:=AA;simp[Act.put,c]at e;exact h.gone i v hi e
 .have c:d≠i:=AA;simp[Act.put,c];exact h.kept i hi
theorem fp.eval{D:fc}(h:fp D a b){x:Operand}(c:zV D x=true):b.eval x=a.eval x:=by
 cases x with
 |tmp t=>
  have ht:D.T t=false:=by grind[zV]
  simp[Act.eval,h.same t ht]
 | _=>rfl
structure J6(P:cg)(f:FuncId)(ops:Array Oper)(k:List Item)(D:Nat->fc):Prop where
 d:∀n,(D n).d=n
 fn:∀n,zY P (D n) f
 ops:∀n,ops.all (sf (D n) ops)=true
 items:∀n,k.all (gX (D n))=true
 aQ:∀n i,(D n).T i=true->(D n).K i=true
 follows:P.follows .rangeFuncRecover=true
 one:∀n m i,((D n).T i=(D m).T i/\(D n).K i=(D m).K i/\(D n).V i=(D m).V i)
def fp.any{D:Nat->fc}(h:J6 P f ops k D){n:Nat}(c:fp (D n) a b)(m:Nat):fp (D m) a b:=
 ⟨c.size,λi hi=>c.same i ((h.one n m i).1.trans hi),λi v hi d=>c.gone i v ((h.one n m i).1.trans hi) d,λi hi=>(c.kept i ((h.one n m i).2.1.trans hi)).trans (h.one n m i).2.2,c.defers⟩
def avu{d:Nat}{g:FuncId}{dG:Func}{gV:Code}{args:Array Operand}{ats:Array TypeId}(r:o.op=.call {callee:=.value (.func g),args,argTypes:=ats})(hg:P.funcs[g]?=some dG)(A:(dG.name== "runtime.NumGoroutine")=false)(j:dG.body=some gV)(hn:n+16*d<=200)(F:kY P f){D:Nat->fc}(c:J6 P f ops k D)(l:fp (D cs.length) a b)(H:Held O P aX w0 n0 a M w Shun)(hk:(Item.inRegion ops []::k).all (fX P)=true)(t:ops[i]?=some o)(S:o.guard=none){h:Tmp}(C:o.dst=some h/\h<a.tmps.size)(z:∀n,kZ.hR (D n) o=true){I J:Act->aO->Prop}{np:aO->Value->Prop}(L:pz n0 I)(h0:I a w)(B:∀k,jN O P Post g (args.map a.eval) M (w.at k) d (λu _ w'=>np w' u/\ea M w w'))(R:∀u w',I a w'->np w' u->J (a.put (some h) u) w')(T:∀a' v M' w' p q,p<=n+16*d->Held O P aX w0 n0 a' M' w' q->fp (D cs.length) a' v->J a' w'->bS P Post p q 0 (aZ ((base f).at v (.inRegion ops rest::k)) cs) w'):
 bS P Post n Shun 0 (aZ ((base f).at b (.inRegion ops (i::rest)::k)) cs) w:=by
 simp only[List.all_cons,Bool.and_eq_true]at hk;have K:∀n,(D n).T h=false:=λn=>by simp_all[kZ.hR,Sv]
 have E:args.map b.eval=args.map a.eval:=Array.map_congr_left λx V=>l.eval (by
  have:=z cs.length;simp only[kZ.hR,Bool.and_eq_true]at this;grind[Array.all_eq_true_iff_forall_mem,Op.operands,Call.operands])
 have hK:(D cs.length).K h=false:=by have:=Array.all_eq_true_iff_forall_mem.1 (c.ops cs.length) o (Array.mem_of_getElem? t);simp_all[sf,Sw]
 refine ZL r hg A j E hn H.fF ⟨F,.inr ⟨D,a,λm=>l.any c m,H.all,c.d,c.fn,c.ops,c.items,λn W e=>?_,c.aQ,c.follows⟩,by rw[l.defers];exact H.defers,hk.1,hk.2,⟨h,AA,by rw[l.size];grind⟩⟩ t (xG S _) B ?_
 .grind
 rintro u M' w' p q h1 Q h3 N y ⟨U,s⟩;rw[C.1];refine T _ _ M' w' p q h1 ⟨Q,λb j=>h3 b (H.sub b j),H.since.trans y,H.keep.trans (λb j=>H.sub b j.1) s,?_,H5,Nat.le_trans H.size y.size⟩ (l.put (K _) hK u) (R u w' (L _ _ _ _ _ (s.lV H.fF) H.all h0) U);exact(H.all.mono (zZ h3)).set N _
end
section
variable{D D':fc}
def Vh(h1:D.T=D'.T)(a:D.K=D'.K)(h3:D.sl=D'.sl):sf D=sf D':=by cases D;cases D';simp only at h1 a h3;subst h1;subst a;subst h3;rfl
def avv(h1:D.T=D'.T):zV D=zV D':=by cases D;cases D';simp only at h1;subst h1;rfl
def wq(h1:D.T=D'.T)(g:D.K=D'.K)(h3:D.sl=D'.sl):∀c,oL D c=oL D' c:=by intro c;induction c with|region id ops d=>simp[oL,Vh h1 g h3]|seq a b f e=>grind[oL]|cond c a b f e=>simp[oL,f,e,avv h1]|block id c i=>grind[oL]|loop c i=>grind[oL]| _=>rfl
def avw(h1:D.T=D'.T)(a:D.K=D'.K)(h3:D.sl=D'.sl):∀x,gX D x=gX D' x:=by intro x;cases x with|code c=>exact wq h1 a h3 c|inLoop c=>exact wq h1 a h3 c|inRegion ops l=>simp[gX,Vh h1 a h3]| _=>rfl
def wj(h1:D.T=D'.T)(a:D.K=D'.K)(h3:D.sl=D'.sl)(l:List Item):l.all (gX D)=l.all (gX D'):=by rw[funext (avw h1 a h3)]
end
end
end aG
end Go.Proofs.YtncomcmfgmojkaaGreat
