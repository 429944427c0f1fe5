import Derived.Test.YtcjlmniddnnieaaGreatPAK
import Derived.Test.YtcjlmniddnnieaaGreatPAL
set_option linter.all false
set_option maxRecDepth 100000
set_option maxHeartbeats 16000000
namespace Go.Proofs.YtcjlmniddnnieaaGreat
open Tryz
namespace bU
open Conc ConcM RowKit au bn ai e_ g6 fF hU c5
def qj(t:List bo)(fr a7:Nat):List bh:=(List.range (a7-fr)).map λk=>([((fr+k:Nat):Int)],t.map (mm · (fr+k)))
theorem N9(t:List bo)(fr a7:Nat):(qj t fr a7).length=a7-fr:=by simp[qj]
theorem xJ(w:aH)(a:Nat->Question->Nat):br w {w with tape:=a}:=λ_ _ _ h=>h
theorem xE.keeps{t:List bo}{fr a7:Nat}{w w':aH}{u:Value}(hk:br w w')(h:xE t fr a7 w u):xE t fr a7 w' u:=by obtain⟨e,f,bs,v,rfl,d,c,b,a⟩:=h;exact⟨e,f,bs,v,Y,hk _ _ _ d,hk _ _ _ c,hk _ _ _ b,a.mono sO hk⟩
def aqh:gz prog false f206=true:=by decide+kernel
def Kf:gz prog false f112=true:=by decide+kernel
def aqi:gz prog false f208=true:=by decide+kernel
def kH:(cr prog false).Good:=YU false AM AM
def aqj(t:List bo)(fr a7:Nat)(a:t.length<=1000000)(k:fr<=a7)(g:a7<=1000000)(b:a7-fr<=300)(cR:∀i,i<a7->∀c∈t,xo i c)(w:aH)(u:Value)(h:xE t fr a7 w u):
 Calls vef 112 #[u] w λe w'=>∃v,e=.returned v/\eS w' v (qj t fr a7):=by
 obtain⟨A,B,bs,v,rfl,z,y,x,s⟩:=h;refine(Sm b w (amB _ _ _) (λargs w=>cq Z5 aqi args w) (amC t v fr a7 w s a k g cR A B bs z y x)).mono ?_;rintro e w' ⟨f,rfl,m,-⟩;refine⟨f,Y,NI m _ (N9 _ _ _) AP λj o p q l=>?_⟩;have n:j<a7-fr:=by rwa[N9]at o
 have C:(qj t fr a7)[j]=([((fr+j:Nat):Int)],t.map (mm · (fr+j))):=by simp[qj]
 rw[C];refine aoY l AQ AJ λd hd=>?_;obtain⟨c,r,rfl⟩:=vbx.1 hd;exact(cR (fr+j) AP c r).small
def aqk{Stop:Bool->ai.Lo At->aX->Prop}{c:da}{bY:aH}{bI:dY}(m:∀b,bI b->c.K b)(hg:∀g,g<=prog.globals.size->bI g)(e:fA (cr prog false) (λb=>bI b\/bZ b) bZ bY){fj v:Value}{t:List bo}{fr a7:uas}(hv:nO bY v t)(hrel:ax (dz (λb=>bI b\/bZ b) bZ) v v)(hinv:∀(args:fi)(w:aH),(callMethod fj "Piece" args).run prog w=.ok (.enter 206 (#[.agg #[v]]++args)) w/\(callMethod fj "Piece" args).events prog w #[]=#[])(f:t.length<=1000000)(l:∀T,T<c.N->fr T<=a7 T/\a7 T<=1000000/\a7 T-fr T<=300/\∀i,i<a7 T->∀c∈t,xo i c)(lB:∀T,T<c.N->c.rows T=a7 T-fr T)(im:∀T,c.bad T=false):
 rh c bY prog Stop 112 fj 206 (.agg #[v]) fr a7
  (λT u M w=>lf (cr prog false) bI c.K (xE t (fr T) (a7 T)) u M w) (λT v M w=>lf (cr prog false) bI c.K (λw v=>T<c.N/\eS w v (qj t (fr T) (a7 T))) v M w):=by
 refine aa8 kH Y func206 aqh Y AM func112 Kf Y AM m hg e hinv (.oW (.one hrel))
  (tf:=λT=>xE t (fr T) (a7 T)) (tg:=λT w v=>T<c.N/\eS w v (qj t (fr T) (a7 T))) (λT=>aoZ _ _ _) (λT _ _ _ _ _ o hv h=>⟨h.1,TG _ _ _ _ _ _ o hv h.2⟩) (λT j w k d x a=>?_) im (λT j d u n a=>?_) (λT w v h=>?_)
 .exact ao1 t v (fr T) (a7 T) {d with tape:=a} (au.aZ.carry xD (x.carry (nw e k)) hrel (au.aZ.carry xD (nx k e) hrel hv) |>.mono sO (xJ d a))
 .obtain⟨s,r,q,p⟩:=l T j;exact(aqj t (fr T) (a7 T) f s r q p {d with tape:=a} u (xE.keeps (xJ d a) n)).mono AJ
 .obtain⟨j,y,cap,rfl,-,-⟩:=h;simp_all[N9]
end bU
namespace aK
open Conc ConcM au bn cC c5
abbrev c0(P:cf):cQ:=cr P true
section
variable{ρ:Ren}
def ab9(n:∀a b d,ρ.rel a b->ρ.rel a d->b=d){a b c:Addr}(h:dE ρ a b)(k:dE ρ a c):b=c:=by obtain⟨cu,dr,o⟩:=b;obtain⟨m,j,l⟩:=c;obtain⟨i,g,f⟩:=h;obtain⟨p,q,e⟩:=k;grind
def Um(p:∀a b q,ρ.rel a b->ρ.rel a q->b=q){x y:Value}(h:ax ρ x y):∀{z:Value},ax ρ x z->y=z:=by
 have all:∀{a a':fi},a.size=a'.size->(∀(i:Nat)(v d:Value),a[i]?=some v->a'[i]?=some d->∀{z:Value},ax ρ v z->d=z)->∀{b:fi},a.size=b.size->(∀(i:Nat)(v d:Value),a[i]?=some v->b[i]?=some d->ax ρ v d)->a'=b:=by
  intro a a' hs g b o k;apply Array.ext
  .grind
  .intro i hi I;have H:i<a.size:=hs▸hi;exact g i a[i] a'[i] AJ AJ (k i _ _ AJ AJ)
 induction h with
 |bool b=>intro z k;cases k;rfl
 |int k n=>intro z k;cases k;rfl
 |string s=>intro z k;cases k;rfl
 |lN=>intro z k;cases k;rfl
 |ptr r=>intro z k;cases k with|ptr e=>rw[ab9 p r e]
 |jV l c=>intro z k;cases k;rfl
 |slice l c r=>intro z k;cases k with|slice _ _ e=>rw[ab9 p r e]
 |qJ=>intro z k;cases k;rfl
 |map r=>intro z k;cases k with|map e=>grind
 |pL=>intro z k;cases k;rfl
 |func D E o _ _ C B=>intro z k;cases k with|func m j F A w=>rw[all E C j A,all o B F w];cases D with|func f=>cases m;rfl|yield r=>cases m with|yield e=>grind
 |nilFunc=>intro z k;cases k;rfl
 |iface t _ g=>intro z k;cases k with|iface _ k'=>grind
 |nilIface=>intro z k;cases k;rfl
 |agg hs _ g=>intro z k;cases k with|agg u k'=>grind
 |tuple hs _ g=>intro z k;cases k with|tuple u k'=>grind
end
def gL(P:cf):Item->Bool
 | .code c| .inLoop c| .inScope c=>jY P true c
 | .inBlock _=>true
 | .inRegion ops _=>ops.all λo=>pP P true o.op
 | _=>false
variable{P:cf}
def Un(a:(c0 P).Good){c:Code}(h:jY P true c=true):(c0 P).me c:=(a.o6 c).2 ((YS P true true c).trans h)
def aqI(a:(c0 P).Good){ρ:Ren}{x:Item}(h:gL P x=true):sK (c0 P) ρ x x:=by cases x with|code c=>exact .code (Un a h)|inLoop c=>exact .inLoop (Un a h)|inScope c=>exact .inScope (Un a h)|inBlock id=>exact .inBlock id|inRegion ops l=>exact .inRegion (λo b=>(YR P true true o.op).trans (vao.1 h o b)) l| _=>cases h
theorem Uk(a:(c0 P).Good){ρ:Ren}:∀{l:uaa},l.all (gL P)=true->ng (c0 P) ρ l l
 | [],_=>.nil
 |x::l,h=>by simp only[vbk,vah]at h;exact .cons (aqI a h.1) (Uk a h.2)
theorem T8{ρ:Ren}:∀{l a:uaa},l.all (gL P)=true->ng (c0 P) ρ l a->a=l
 | [],_,_,h=>by cases h;rfl
 |x::l,_,hk,h=>by simp only[vbk,vah]at hk;cases h with|cons b c=>rw[T8 hk.2 c];cases b<;>first|rfl|cases hk.1
def ln(P:cf)(f:uah):Prop:=∃fn c,(ae P true).funcs[f]?=some fn/\fn.body=some c
def Kh(d:(c0 P).Good){ρ:Ren}{f:uah}(b:ln P f){a:Act}(c:aM ρ a.tmps a.tmps)(hd:a.defers=[]){k:uaa}(hk:k.all (gL P)=true):ej (c0 P) ρ ((base f).at a k) ((base f).at a k):=
 ⟨Y,b,c,Uk d hk,by show rM ρ a.defers a.defers;rw[hd];exact .nil,.run,Y,.inl Y,.none⟩
theorem Ki{ρ:Ren}{f:uah}{a:Act}(hd:a.defers=[]){k:uaa}(hk:k.all (gL P)=true){g:Frame}(h:ej (c0 P) ρ ((base f).at a k) g):∃a':Act,g=(base f).at a' k/\aM ρ a.tmps a'.tmps/\a'.defers=[]:=by obtain⟨fn,tmps,todo,defers,mode,kind,ro⟩:=g;obtain⟨d,_,m,l,b,n,c,_,o⟩:=h;have e:todo=k:=T8 hk l;have b:rM ρ a.defers defers:=b;rw[hd]at b;have j:vb ρ .run mode:=n;have i:o0 ρ.rel none ro:=o;cases b;cases j;cases i;refine⟨⟨tmps,[]⟩,?_,m,Y⟩;subst e;have d:f=fn:=d;have c:CallKind.normal=kind:=c;subst d;subst c;rfl
structure fk where
 n:Nat
 heap:Array Obj
abbrev hY(M:dY):Nat->Prop:=M
abbrev bG(M:dY):Ren:=dz M (hY M)
structure Home(O:fk)(P:cf)(M:dY)(Shun:uai)(w:aH):Prop where
 cl:fA (c0 P) M (hY M) w
 Bk:∀g,g<=P.globals.size->M g
 sh:∀b,M b\/w.heap.size<=b->∀l,e8 l=some b->¬Shun l
 new:∀b,M b->b≠0->O.n<=b
 ob:O.n<=w.heap.size
 old:∀b,0<b->b<O.n->w.heap[b]?=O.heap[b]?
 so:∀b,b<O.n->∀l,e8 l=some b->¬Shun l
structure oM(w w':aH):Prop where
 size:w.heap.size<=w'.heap.size
 later:OsLater w.os w'.os
 output:w'.output=w.output
 tape:w'.tape=w.tape
theorem oM.refl(w:aH):oM w w:=⟨vad _,.refl _,Y,Y⟩
theorem oM.trans{a b c:aH}(h:oM a b)(k:oM b c):oM a c:=⟨vac h.size k.size,h.later.trans k.later,k.output.trans h.output,k.tape.trans h.tape⟩
def qk(ρ:Ren):Nat->Prop:=λb=>∃a,ρ.rel a b
variable{fr:Frame}
section
variable{O:fk}{Post:fX}{n:Nat}{Shun:uai}{M:dY}{w:aH}
theorem Home.at(h:Home O P M Shun w)(k:Nat):Home O P M Shun (w.at k):=⟨h.cl,h.Bk,h.sh,h.new,h.ob,h.old,h.so⟩
def Home.lt(h:Home O P M Shun w){b:Nat}(a:M b):b<w.heap.size:=by obtain⟨o,c,_⟩:=h.cl b a;grind
structure Behind(O:fk)(P:cf)(M:dY)(Shun:uai)(w:aH)(ρ:Ren)(bL w':aH):Prop where
 rel:∃S,et (c0 P) S ρ bL w'
 le:Ren.le (bG M) ρ
 gq:Home O P (qk ρ) Shun w'
 since:oM w w'
 old:∀a b,ρ.rel a b->(a=b/\M b)\/w.heap.size<=b
def Behind.same{ρ:Ren}{d w':aH}(h:Behind O P M Shun w ρ d w'){v a:Value}(hv:ax (bG M) v v)(c:ax ρ v a):a=v:=by obtain⟨S,b⟩:=h.rel;exact(Um b.one (hv.mono h.le) c).symm
def Behind.mem{ρ:Ren}{c w':aH}(h:Behind O P M Shun w ρ c w'){b:Nat}(a:M b):qk ρ b:=⟨b,h.le.1 b b ⟨Y,a⟩⟩
def Behind.val{ρ:Ren}{e w':aH}(_:Behind O P M Shun w ρ e w'){v b:Value}(c:ax ρ v b):ax (bG (qk ρ)) b b:=ax.right (σ:=bG (qk ρ)) (λa _ d=>⟨Y,a,d⟩) c
def Behind.all{ρ:Ren}{e w':aH}(_:Behind O P M Shun w ρ e w'){v b:fi}(c:aM ρ v b):aM (bG (qk ρ)) b b:=aM.right (σ:=bG (qk ρ)) (λa _ d=>⟨Y,a,d⟩) c
theorem Behind.carry{ρ:Ren}{a w':aH}(h:Behind O P M Shun w ρ a w'):Carry ρ a w':=by obtain⟨S,b⟩:=h.rel;exact b.carry
theorem Home.cell(h:Home O P M Shun w){a:Addr}{v:Value}(j:M a.block)(hv:w.cell? a=some v):ax (bG M) v v:=by
 obtain⟨c,e,fr,g,k,d⟩:=u9 hv;obtain⟨o,f,b⟩:=h.cl _ j;rw[g]at f;cases f;rcases b with b|b
 .cases b with|cells _ i _=>exact i.get _ _ _ d d
 .exact b.elim
theorem Home.laid(h:Home O P M Shun w){b:aH}(g:gm (c0 P) M (hY M) w b){a:Addr}{v:Value}(f:M a.block)(hv:w.cell? a=some v):b.cell? a=some v:=by obtain⟨c,e,fr,d,k,j⟩:=u9 hv;obtain⟨i,l,_⟩:=g.cells h.cl f d;grind[oo]
def Behind.kept{ρ:Ren}{f d w':aH}(h:Behind O P M Shun w ρ d w')(e:Home O P M Shun w)(i:gm (c0 P) M (hY M) w f){a:Addr}{v:Value}(b:M a.block)(hv:w.cell? a=some v)(hk:f.cell? a=some v->d.cell? a=some v):w'.cell? a=some v:=by obtain⟨v2,c,g⟩:=h.carry a a v ⟨h.le.1 _ _ ⟨Y,b⟩,Y,Y⟩ (hk (e.laid i b hv));rw[h.same (e.cell b hv) g]at c;exact c
theorem Behind.keeps{ρ:Ren}{g d w':aH}(h:Behind O P M Shun w ρ d w')(f:Home O P M Shun w)(i:gm (c0 P) M (hY M) w g)(hk:br g d):Carry (bG M) w w':=by
 rintro a a' v ⟨⟨l,hd⟩,k,j⟩ hv;have e:a=a':=by obtain⟨x,y,z⟩:=a';obtain⟨p,q,r⟩:=a;grind
 subst e;refine⟨v,h.kept f i hd hv λx=>?_,f.cell hd hv⟩;obtain⟨b,o,sp⟩:=a;obtain⟨_,_,_,_,c,_⟩:=u9 hv;simp only at c;subst c;exact hk b o v x
def Home.next(c:Home O P M Shun w){X Y:aX}(f:cC.Left X Y)(m:X.w=w/\X.mine=hY M){ρ:Ren}{S:Sync}{n:aH}{k:Nat}(j:et (c0 P) S ρ n (Y.w.at k))(e:Ren.le (bG M) ρ)(hold:∀a b,ρ.rel a b->(bG M).rel a b\/w.heap.size<=b):Home O P (qk ρ) Shun (Y.w.at k):=by
 obtain⟨rfl,o⟩:=m;have kept:∀b,b<X.w.heap.size->¬hY M b->Y.w.heap[b]?=X.w.heap[b]?:=λb l p=>f.kept b l AJ;refine⟨j.closed _,λg hg=>⟨g,e.1 g g ⟨rfl,c.Bk g hg⟩⟩,λb d=>?_,λb⟨a,i⟩ d=>?_,vac c.ob f.size,λb h0 d=>?_,c.so⟩
 .rcases d with⟨a,i⟩|d
  .rcases hold a b i with h|h
   .exact c.sh b (.inl h.2)
   .exact c.sh b (.inr h)
  .exact c.sh b (.inr (vac f.size d))
 .rcases hold a b i with h|h
  .exact c.new b h.2 d
  .exact vac c.ob h
 .refine(kept b (vav d c.ob) λx=>?_).trans (c.old b h0 d);have:=c.new b x AP;omega
def T2(v:(c0 P).Good)(i:Home O P M Shun w){f:uah}{cs0 bs:fG}(z:ej (c0 P) (bG M) fr fr)(m:jf (c0 P) (bG M) cs0 cs0)(x:jg fr cs0){R:Frame->List Frame->aH->aH->Prop}(hrun:∀e,gm (c0 P) M (hY M) w e->∀T,∃c cse d,Steps (ae P true) (lone fr (cs0++[eJ f]) {e with tape:=T}) (lone c (cse++[eJ f]) d)/\R c cse e d)(y:∀ρ c cse e d l j w',gm (c0 P) M (hY M) w e->R c cse e d->ej (c0 P) ρ c l->jf (c0 P) ρ cse j->Behind O P M Shun w ρ d w'->bK P Post n Shun 0 (a0 l (j++bs)) w'):
 bK P Post n Shun 0 (a0 fr (cs0++bs)) w:=by
 obtain⟨e,q⟩:=IL (c0 P) M (hY M) w;have s:=YO (C:=(c0 P)) (f:=f) (base:=bs) (w0:=e) (mW:=w) (K:=λ_=>False) (rP:=hY M) (R:=λc cse d=>R c cse e d) v z m x (q.rel i.cl i.Bk AJ) (λb h=>h) (λa b h=>.inr h.2)
  (λT=>by obtain⟨c,cse,d,⟨k,hk⟩,p⟩:=hrun e q T;exact⟨k,c,cse,d,hk,p⟩) true
 refine vU (Ul s rfl (λb u=>i.lt AJ) (λb u=>i.sh b AJ) ?_);rintro Y ⟨ρ,c,cse,d,T,p,ht⟩ g;obtain⟨l,j,hg,t,o⟩:=ht.frames;rw[hg];refine .stop λk=>y ρ c cse e d l j (Y.w.at k) q p t o ?_;have r:=ht.world.rely (w':=Y.w.at k) (bound:=0) (⟨λ_ _=>rfl,vad _,rfl⟩:kn (λ_=>False) Y (Y.w.at k)) ht.dom AJ;exact⟨⟨_,r⟩,ht.le,i.next g ⟨rfl,rfl⟩ r ht.le ht.old,⟨g.size,g.os,g.output,g.tape⟩,λa b h=>(ht.old a b h).imp id id⟩
end
section
open kO
variable{O:fk}
section
variable{P:cf}{Post:fX}{n:Nat}{Shun:uai}{M:dY}{w:aH}
def Ut(F:(c0 P).Good)(hF:P.follows .rangeFuncRecover=true){D:fH}(m:Home O P M Shun w){f:uah}{cs0 bs:fG}{g:uaf}(hd:D.d<=bs.length)(hv:m7 P D (a0 fr (cs0++bs)) g)(J:ej (c0 P) (bG M) fr fr)(s:jf (c0 P) (bG M) cs0 cs0)(H:jg fr cs0){R:Frame->List Frame->aH->aH->Prop}(hrun:∀e,gm (c0 P) M (hY M) w e->∀T,∃c cse d,Steps (ae P true) (lone fr (cs0++[eJ f]) {e with tape:=T}) (lone c (cse++[eJ f]) d)/\R c cse e d)(I:∀ρ c cse e d p o w' g',gm (c0 P) M (hY M) w e->R c cse e d->ej (c0 P) ρ c p->jf (c0 P) ρ cse o->Behind O P M Shun w ρ d w'->m7 P D (a0 p (o++bs)) g'->bK P Post n Shun 0 g' w'):
 bK P Post n Shun 0 g w:=by
 obtain⟨e,y⟩:=IL (c0 P) M (hY M) w;have B:=o7.var hF hd (YL (C:=(c0 P)) (f:=f) (base:=bs) (w0:=e) (mW:=w) (K:=λ_=>False) (rP:=hY M) (R:=λc cse d=>R c cse e d) F J s H (y.rel m.cl m.Bk λ_ _ l=>.inl l) (λb h=>h) (λa b h=>.inr h.2)
  (λT=>by obtain⟨c,cse,d,⟨k,hk⟩,u⟩:=hrun e y T;exact⟨k,c,cse,d,hk,u⟩) true) g hv
 refine vU (Ul B hv.parts.1 (λb l=>m.lt (l.resolve_left λx=>x)) (λb l=>m.sh b (l.resolve_left λx=>x)) ?_);rintro A ⟨Y,⟨ρ,c,cse,d,T,u,ht⟩,z,v,L⟩ i;obtain⟨p,o,hg,E,t⟩:=ht.frames;rw[hg]at z;refine .stop λk=>I ρ c cse e d p o (A.w.at k) A.g y u E t ?_ z;have r:=ht.world.rely (w':=Y.w.at k) (bound:=0) (⟨λ_ _=>rfl,vad _,rfl⟩:kn (λ_=>False) Y (Y.w.at k)) ht.dom (λj q h=>absurd h (Nat.not_lt_zero _));rw[<-v]at r;exact⟨⟨_,r⟩,ht.le,m.next i ⟨rfl,rfl⟩ r ht.le ht.old,⟨i.size,i.os,i.output,i.tape⟩,λa b h=>(ht.old a b h).imp id id⟩
structure gb(D:fH)(a b:Act):Prop where
 size:b.tmps.size=a.tmps.size
 same:∀i,D.T i=false->b.tmps[i]?=a.tmps[i]?
 gone:∀i v,D.T i=true->a.tmps[i]?=some v->v=undef
 kept:∀i,D.K i=true->b.tmps[i]?=D.V i
 defers:b.defers=a.defers
structure Bn(P:cf)(D:fH)(f:uah):Prop where
 GK:∃fn,P.funcs[f]?=some fn/\fn.results.all (Do D)=true
 sl:∀t,D.sl t=true->∃e,P.underlying t=some (.slice e)
 Og:P.inits.idxOf? f=none
section
variable{D:fH}{f:uah}{a b:Act}{k:uaa}
def gb.Uu(h:gb D a b)(f:uah)(k:uaa):eY D ((base f).at a k) ((base f).at b k):=
 ⟨by simp only[Frame.at,base,h.defers],h.size,h.same,λ_=>h.gone,λ_=>h.kept⟩
def Bn.c7(h:Bn P D f)(hk:k.all (hZ D)=true)(a:Act):nB P D ((base f).at a k):=⟨λ_=>hk,Y,h.GK,h.sl,h.Og⟩
theorem eY.act(h:eY D ((base f).at a k) fr):∃b:Act,fr=(base f).at b k/\gb D a b:=by refine⟨⟨fr.tmps,a.defers⟩,?_,h.size,h.same,h.gone Y,h.kept Y,Y⟩;have:=h.eq;rw[this];rfl
end
end
end
variable{aB:fC}
section
open kO
variable{O:fk}
section
variable{P:cf}{Post:fX}{n:Nat}{Shun:uai}{M:dY}{w:aH}
theorem gY(a:Act)(d:Option Tmp)(v:Value):(a.put d v).tmps.size=a.tmps.size:=by cases d<;>simp[Act.put]
theorem put_defers(a:Act)(d:Option Tmp)(v:Value):(a.put d v).defers=a.defers:=by cases d<;>rfl
structure aqW(P:cf)(M:dY)(eZ:uah)(aD:Act)(aB:fC)(aJ:Nat)(aG:uaa)(D:Nat->fH)(b7:Act):Prop where
 n8:∀n,gb (D n) b7 aD
 all:aM (bG M) b7.tmps b7.tmps
 d:∀n,(D n).d=n
 fn:∀n,Bn P (D n) eZ
 ops:∀n,aB.all (tl (D n) aB)=true
 items:∀n,aG.all (hZ (D n))=true
 dst:∀n d,(aB[aJ]?).bind (·.dst)=some d->(D n).T d=false
 aS:∀n i,(D n).T i=true->(D n).K i=true
 follows:P.follows .rangeFuncRecover=true
structure xN(P:cf)(M:dY)(eZ:uah)(aD:Act)(aB:fC)(aJ:Nat)(aG:uaa):Prop where
 known:ln P eZ
 tmps:aM (bG M) aD.tmps aD.tmps\/∃D b7,aqW P M eZ aD aB aJ aG D b7
 defers:aD.defers=[]
 ops:gL P (.inRegion aB [])=true
 items:aG.all (gL P)=true
 dst:∃d,(aB[aJ]?).bind (·.dst)=some d/\d<aD.tmps.size
def ei(O:fk)(P:cf)(Post:fX)(f:uah)(args:fi)(M:dY)(w:aH)(d:Nat)(V:ube):Prop:=
 ∀n Shun,n+16*d<=200->Home O P M Shun w->∀eZ aD aB aJ aL aG csZ,xN P M eZ aD aB aJ aG->
  (∀u M' w' n' a8,n'<=n+16*d->Home O P M' a8 w'->(∀b,M b->M' b)->ax (bG M') u u->oM w w'->V u M' w'->
   bK P Post n' a8 0 (a0 ((base eZ).at (aD.put ((aB[aJ]?).bind (·.dst)) u) (.inRegion aB aL::aG)) csZ) w')->
  bK P Post n Shun 0 (a0 (Frame.enter P f args .normal) ((base eZ).at aD (.inRegion aB (aJ::aL)::aG)::csZ)) w
def xO{M M':dY}(h:∀b,M b->M' b):Ren.le (bG M) (bG M'):=⟨λ_ b k=>⟨k.1,h b k.2⟩,λb k=>h b k⟩
def xN.rel(d:(c0 P).Good){b:uah}{aD:Act}{aJ:Nat}{aG:uaa}(h:xN P M b aD aB aJ aG)(l:uad){a:Act}(c:aM (bG M) a.tmps a.tmps)(hd:a.defers=[]):ej (c0 P) (bG M) ((base b).at a (.inRegion aB l::aG)) ((base b).at a (.inRegion aB l::aG)):=
 Kh d h.known c hd (by simp only[vbk,vah];exact⟨h.ops,h.items⟩)
theorem xN.mono{M':dY}(c:∀b,M b->M' b){a:uah}{aD:Act}{aJ:Nat}{aG:uaa}(h:xN P M a aD aB aJ aG):xN P M' a aD aB aJ aG:=
 ⟨h.known,h.tmps.imp (λx=>x.mono (xO c)) (λ⟨D,d,x⟩=>⟨D,d,x.n8,x.all.mono (xO c),x.d,x.fn,x.ops,x.items,x.dst,x.aS,x.follows⟩),h.defers,h.ops,h.items,h.dst⟩
def S4{ρ:Ren}{o w':aH}(m:Behind O P M Shun w ρ o w'){aD a':Act}{d:Nat}(e:d<aD.tmps.size)(l:aM (bG M) aD.tmps aD.tmps)(g:aD.defers=[]){v:Value}(c:aM ρ (aD.put (some d) v).tmps a'.tmps)(b:a'.defers=[]):∃u,ax ρ v u/\a'=aD.put (some d) u:=by
 have hsz:a'.tmps.size=aD.tmps.size:=by rw[<-c.size,gY]
 obtain⟨u,k⟩:∃u,a'.tmps[d]?=some u:=⟨a'.tmps[d]'(hsz▸e),AJ⟩;refine⟨u,c.get d v u (by simp[Act.put,e]) k,?_⟩;obtain⟨n,h⟩:=a';have b:h=[]:=b;subst b;show _=(⟨aD.tmps.setIfInBounds d u,aD.defers⟩:Act);rw[g];congr 1
 apply Array.ext
 .grind
 .intro j f a;have q:j<aD.tmps.size:=AJ;apply van;rw[<-vax f,<-vax a,vam];by_cases p:d=j
  .grind
  .simp[p];have i:ax ρ aD.tmps[j] n[j]:=c.get j _ _ (by grind[Act.put]) AJ;rw[vax f,vax q,m.same (l.get j _ _ AJ AJ) i]
def aqX(E:(c0 P).Good)(aQ:Home O P M Shun w)(bO:ej (c0 P) (bG M) fr fr){j:uah}{aD:Act}{aJ:Nat}{aL:uad}{aG:uaa}{csZ:fG}(s:xN P M j aD aB aJ aG){hO:ubq}(hrun:∀m,gm (c0 P) M (hY M) w m->∀T,∀c cs,∃v p,hO m v p/\Steps (ae P true) (lone fr (c::cs) {m with tape:=T}) (lone (c.finish v) cs p))(cx:∀ρ m v p u w',gm (c0 P) M (hY M) w m->hO m v p->ax ρ v u->Behind O P M Shun w ρ p w'->bK P Post n Shun 0 (a0 ((base j).at (aD.put ((aB[aJ]?).bind (·.dst)) u) (.inRegion aB aL::aG)) csZ) w'):
 bK P Post n Shun 0 (a0 fr ((base j).at aD (.inRegion aB (aJ::aL)::aG)::csZ)) w:=by
 obtain⟨d,ve,o5⟩:=s.dst;have J7:∀q:Act,∀m,gm (c0 P) M (hY M) w m->∀T,∃z cse p,Steps (ae P true) (lone fr ([(base j).at q (.inRegion aB (aJ::aL)::aG)]++[eJ j]) {m with tape:=T}) (lone z (cse++[eJ j]) p)/\cse=[]/\∃v,z=(base j).at (q.put (some d) v) (.inRegion aB aL::aG)/\hO m v p:=by intro q m V T;obtain⟨v,p,H,F⟩:=hrun m V T ((base j).at q (.inRegion aB (aJ::aL)::aG)) [eJ j];grind[Frame.finish_at]
 have Z:(Item.inRegion aB aL::aG).all (gL P)=true:=by simp only[vbk,vah];exact⟨s.ops,s.items⟩
 rcases s.tmps with B|⟨D,q,r⟩
 .refine T2 E aQ (f:=j) (cs0:=[(base j).at aD (.inRegion aB (aJ::aL)::aG)]) (bs:=csZ) bO (.cons (s.rel E _ B s.defers) .nil) ⟨rfl,rfl⟩
   (R:=λz cse m p=>cse=[]/\∃v,z=(base j).at (aD.put (some d) v) (.inRegion aB aL::aG)/\hO m v p) (J7 aD) ?_
  rintro ρ z cse m p aP be w' V ⟨rfl,v,rfl,hv⟩ I A N;cases A;obtain⟨a',rfl,H,F⟩:=Ki (by rw[put_defers];exact s.defers) Z I;obtain⟨u,S,rfl⟩:=S4 N o5 B s.defers H F;grind
 .have y:=r.n8 csZ.length;have h0:q.defers=[]:=by rw[<-y.defers];exact s.defers
  have Q:d<q.tmps.size:=by rw[<-y.size];grind
  have dg:∀l:List Nat,(Item.inRegion aB l::aG).all (hZ (D csZ.length))=true:=λl=>by rw[vbk,vah];refine⟨?_,r.items _⟩;simp[hZ];intro i _;cases ho:aB[i]? with|none=>rfl|some o=>exact vao.1 (r.ops _) o (vbd ho)
  refine Ut E r.follows (D:=D csZ.length) aQ (f:=j) (cs0:=[(base j).at q (.inRegion aB (aJ::aL)::aG)]) (bs:=csZ) (g:=a0 fr ((base j).at aD (.inRegion aB (aJ::aL)::aG)::csZ)) (by rw[r.d];grind) (.under _ (.here (y.Uu _ _) ⟨(r.fn _).c7 (dg _) _,λ_ ops i rest k e o ho d' fU=>?_⟩ _ (r.d _).symm) _ _) bO (.cons (s.rel E _ r.all h0) .nil) ⟨rfl,rfl⟩
   (R:=λz cse m p=>cse=[]/\∃v,z=(base j).at (q.put (some d) v) (.inRegion aB aL::aG)/\hO m v p) (J7 q) ?_
  .have e:Item.inRegion aB (aJ::aL)::aG=.inRegion ops (i::rest)::k:=e;cases e;exact r.dst _ d' AJ
  rintro ρ z cse m p aP be w' g' V ⟨rfl,v,rfl,hv⟩ I A N X;cases A;obtain⟨a',rfl,H,F⟩:=Ki (by grind[put_defers]) Z I;obtain⟨u,S,rfl⟩:=S4 N Q r.all h0 H F;have hlen:(D csZ.length).d=csZ.length:=r.d _;have key:∃W,g'=a0 W csZ/\eY (D csZ.length) ((base j).at (q.put (some d) u) (.inRegion aB aL::aG)) W:=by generalize Y:a0 ((base j).at (q.put (some d) u) (.inRegion aB aL::aG)) ([]++csZ)=g0 at X;cases X with|same g hl=>grind[a0]|g7 h v=>cases Y;exact⟨_,rfl,h⟩|under a h=>cases Y;have:=h.lt;grind
  obtain⟨W,rfl,U⟩:=key;obtain⟨b,rfl,C⟩:=eY.act U;have e:b=aD.put (some d) u:=by
   obtain⟨t,ds⟩:=b;have e1:ds=aD.defers:=C.defers.trans (by rw[put_defers,y.defers]);subst e1;show _=(⟨aD.tmps.setIfInBounds d u,aD.defers⟩:Act);congr 1
   have hs:t.size=(aD.tmps.setIfInBounds d u).size:=by rw[vdb,y.size,<-gY q (some d) u];exact C.size
   refine vcp λi=>?_;cases L:(D csZ.length).T i with
   |false=>have J:t[i]?=(q.tmps.setIfInBounds d u)[i]?:=C.same i L;rw[J,vam,vam,y.size,y.same i L]
   |true=>
    have hK:=r.aS _ i L;have J:t[i]?=(D csZ.length).V i:=C.kept i hK;have K:d≠i:=λx=>by have:=r.dst csZ.length d ve;grind
    rw[J,vam,vbt K,y.kept i hK]
  grind
def wp_move(e:(c0 P).Good)(m:Home O P M Shun w){f:uah}(j:ln P f){a:Act}(l:aM (bG M) a.tmps a.tmps)(hd:a.defers=[]){k k':uaa}(hk:k.all (gL P)=true)(v:k'.all (gL P)=true){cs:fG}{Q:aH->Act->aH->Prop}(hrun:∀c,gm (c0 P) M (hY M) w c->∀T,∀(b:Frame)(cs:fG),∃a1 w1,Q c a1 w1/\a1.defers=[]/\Steps (ae P true) (lone (b.at a k) cs {c with tape:=T}) (lone (b.at a1 k') cs w1))(u:∀ρ c a1 w1 a' w',gm (c0 P) M (hY M) w c->Q c a1 w1->aM ρ a1.tmps a'.tmps->a'.defers=[]->Behind O P M Shun w ρ w1 w'->bK P Post n Shun 0 (a0 ((base f).at a' k') cs) w'):
 bK P Post n Shun 0 (a0 ((base f).at a k) cs) w:=by
 refine T2 e m (f:=f) (cs0:=[]) (bs:=cs) (Kh e j l hd hk) .nil ⟨Y,Y⟩ (R:=λg cse c h=>cse=[]/\∃a1,g=(base f).at a1 k'/\a1.defers=[]/\Q c a1 h) (λc i T=>?_) ?_
 .obtain⟨a1,w1,t,s,r⟩:=hrun c i T (base f) [eJ f];grind
 .rintro ρ g cse c h y x w' i ⟨rfl,a1,rfl,o,hq⟩ p d q;cases d;grind[Ki]
end
end
end aK
namespace m8
open Conc ConcM au bn ai g6 fF hU cC
abbrev eo:eX where
 Lo:=Unit
 aN:=Unit
 a6:=λ_=>0
 p7:=λ_ ls=>ls.length=1
 dM:=λ_ _ _=>True
 K:=λ_=>False
 hE:=λ_=>False
 ug:=λ_ _=>True
 tok:=λ_=>false
 deaf:=λ_=>0
 past:=λ_=>false
 Left:=λ_=>False
 zero:=λ_=>False
 oH:=λ_ _=>False
 hh:=λ_=>False
 eW:=λ_=>False
 mu:=⟨0,0,none⟩
 wg:=⟨0,0,none⟩
 o_:=λ_ _ _=>False
def uF:eo.Good where
 refl:=AJ
 trans:=AJ
 less:=AJ
 mt:=AJ
 nt:=AJ
 one:=AJ
 ov:=λ_ ls h=>⟨0,(),by
  grind,λh=>h,λh=>h⟩
 zero:=AJ
 Gk:=AJ
 CK:=AJ
 uf:=AJ
section
variable{P:cf}{Shun:uai}{Stop:uav}{d:Nat}
theorem S1{mine:dY}{B:Nat}:∀(es:ubk)(d:Nat),oI eo () mine d es->(∀e∈es,¬vw eo e)->(∀b,mine b->∀l,e8 l=some b->¬Shun l)->(∀b,mine b->b<B)->(∀e∈es,pq Shun B e)/\∀k,deafBehind k es.toArray=k
 | [],_,_,_,_,_=>⟨AQ,λ_=>Y⟩
 |e::es,d,h,i,hs,j=>by
  obtain⟨n,o⟩:=S1 es _ h.2 AJ hs j;have c:=h.1;have f:=i e AQ;have hk:yp (λ_=>False) mine e:=by
   unfold uh at c;unfold yp;cases g:e.loc with
   |cell a=>grind
   |obj r=>grind
   |output=>trivial
   |goroutines=>grind
   |mark m=>
    rw[g]at c;rcases c with c|⟨c,_⟩
    .cases m with|noRoom=>trivial|extern _=>trivial|disable=>exact absurd (.inl g) f|enable=>exact absurd (.inr (.inl g)) f| _=>exact c.elim
    grind
  refine⟨λu q=>?_,λk=>?_⟩
  .grind[ab7]
  .have t:deafBehind k (e::es).toArray=deafBehind (deafBehind k #[e]) es.toArray:=by simp[deafBehind]
   have s:deafBehind k #[e]=k:=by
    obtain⟨loc,wr,p⟩:=e;cases loc with
    |mark m=>cases m<;>first|exact hk.elim|rfl
    | _=>rfl
   grind
def ard{ST:Bool->eo.Lo->aX->Prop}{m:Bool}{l:eo.Lo}{γ:eo.aN}{X:aX}(h:bf eo P ST m l γ X):m=true->(∀b,X.mine b->b<X.w.heap.size)->(∀b,X.mine b\/X.w.heap.size<=b->∀l,e8 l=some b->¬Shun l)->
 (∀Y,ST true () Y->cC.Left X Y->en P Shun Stop d Y.g Y.w)->en P Shun Stop d X.g X.w:=by
 induction h with
 |@stop m l γ X h=>rintro rfl _ _ k;exact k X h ⟨λ_ h=>h,λ_ _ _=>rfl,AJ,vad _,.refl _,rfl,rfl,id⟩
 |@step m l γ X hs ch ok hq o w x u C A s=>
  rintro rfl y z k;refine en.mk hs λn=>?_;have hrel:dN eo l γ X (X.w.at n):=⟨⟨λ_ _=>rfl,vad _,.refl _⟩,PA,⟨[l],0,rfl,rfl⟩,.refl _,rfl,rfl⟩;rcases ok (X.w.at n) γ trivial hrel with⟨g1,w1,es,e,q⟩|⟨g1,w1,es,e,q,_⟩|⟨_,_,q,_⟩|⟨_,g1,c,w1,es,e,q⟩
  .have hsz:X.w.heap.size<=w1.heap.size:=q.keep.size;have r:∀b,grown X.mine (X.w.at n) w1 b->X.mine b\/(X.w.heap.size<=b/\b<w1.heap.size):=λb h=>h;have t:∀b,grown X.mine (X.w.at n) w1 b->∀l,e8 l=some b->¬Shun l:=AJ;have g:∀b,grown X.mine (X.w.at n) w1 b->b<w1.heap.size:=AJ;obtain⟨i,f⟩:=S1 (Shun:=Shun) (B:=w1.heap.size) es.toList 0 q.evs (λe o v=>q.low (.inl AJ)) t g;refine⟨g1,w1,es,e,AJ,hsz,?_⟩;have p:deafBehind d es=d:=f d;rw[p];refine u (X.w.at n) γ g1 w1 es trivial hrel e q.run q.low rfl g AJ (λY j a=>k Y j ?_);refine⟨λb h=>a.sub b (.inl h),λb i f=>(a.kept b AJ λh=>?_).trans (q.keep.kept b i f La),λb h=>?_,vac hsz a.size,(show OsLater X.w.os w1.os from q.keep.os).trans a.os,a.output.trans q.keep.output,a.tape.trans q.keep.tape,λ_=>a.run q.run⟩
   .grind
   .rcases a.new b h with h|h
    .rcases r b h with h|h
     .grind
     .exact .inr ⟨h.1,vav h.2 a.size⟩
    grind
  .exact absurd q.AY.1 AJ
  .grind
  .exact absurd q.a6 AJ
end
end m8
namespace m8
open Conc ConcM au bn ai g6 fF hU
section
section
variable{Z:eX}{Q:cf}{Stop:Bool->Z.Lo->aX->Prop}{m:Bool}{b:Frame}{ops:fC}{l:Z.Lo}{M:dY}{w0:aH}{bs:uan}
def iH(Z:eX)(l:Z.Lo)(M:dY)(w0:aH)(bs:uan):cv Z:=⟨l,ca M bs,λw _=>ah Z M w0 bs w⟩
def Oq:s8 (iH Z l M w0 bs):=λ_ _ _ _ _ h _ a=>ah.on h (dN.rw a)
def Dt(x:ubr)(M:dY)(w0:aH)(bs:uan):Prop:=x∈bs\/(M x.1/\w0.heap[x.1]?=some x.2)
theorem Dt.at{x:ubr}(h:Dt x M w0 bs){w:aH}(hk:ah Z M w0 bs w):ca M bs x.1/\w.heap[x.1]?=some x.2:=by
 rcases h with h|⟨a,b⟩
 .exact⟨.inr AJ,hk.cZ x h⟩
 .exact⟨.inl a,(hk.rw.heap x.1 (.inr a)).trans b⟩
def Dt.cons{x y:ubr}(h:Dt x M w0 bs):Dt x M w0 (y::bs):=h.imp AJ id
def Ot(Z:eX)(l:Z.Lo)(xs:uan)(σ:cv Z):Prop:=∃M w0 bs,(∀x∈xs,Dt x M w0 bs)/\σ=iH Z l M w0 bs
def Ou{xs:uan}:∀σ,Ot Z l xs σ->s8 σ:=by rintro _ ⟨M,w0,bs,_,rfl⟩;exact Oq
def are{xs:uan}:∀σ,Ot Z l xs σ->∀w γ,σ.S w γ->σ.S {w with drawn:=w.drawn+1} γ:=by rintro _ ⟨M,w0,bs,_,rfl⟩ w γ h;exact⟨h.rw.trans ⟨λ_ _=>Y,vad _,.refl _,Y,Y⟩,h.cZ,h.lt,h.eL,h.sX,h.la,h.vE⟩
def Wi(n:Z.past l=false){xs:uan}{z:ubr}(j:z∈xs){o:Oper}{v:Value}{a:Act}(c:veg o ops a.tmps=true)(h:∀w,w.heap[z.1]?=some z.2->(execOp a.eval o).run Q w=.ok (.value v) w/\∀e∈listed Q b.fn a o w,∃off,e=⟨.cell ⟨z.1,off,none⟩,false,false⟩):n2 Q b ops (Ot Z l xs) o v a:=by
 refine .inl ⟨c,?_⟩;rintro _ ⟨M,w0,bs,k,rfl⟩ w γ w' t g hS p m;have ie:=Oq (Z:=Z) (l:=l) w γ w' t g hS p m;obtain⟨s,q⟩:=(k z j).at ie;obtain⟨r,i⟩:=h w' q;refine⟨r,AZ _ _ λe f d=>?_,?_⟩
 .obtain⟨off,rfl⟩:=i e AJ;exact .inl ⟨Y,.inr (.inl s),n⟩
 .rintro⟨e,f,c⟩;obtain⟨off,rfl⟩:=i e f;rcases c with c|c|⟨_,c⟩|⟨_,c⟩|⟨c,_⟩<;>cases c
def UA(d:∀b,Z.K b->¬Z.hE b){o:Oper}{ob:Obj}{a:Act}{K:cv Z->Act->Prop}(h:∀w,(execOp a.eval o).run Q w=.ok (.value (.P w.heap.size 0)) (w.alloc ob)/\listed Q b.fn a o w=#[])(k:∀n,K (iH Z l M w0 ((n,ob)::bs)) (a.put o.dst (.P n 0))):CX Q b o (iH Z l M w0 bs) a K:=by
 intro w γ w' m g hS f e;have ie:ah Z M w0 bs w':=Oq (Z:=Z) (l:=l) w γ w' m g hS f e;obtain⟨j,i⟩:=h w';refine⟨_,_,iH Z l M w0 ((w'.heap.size,ob)::bs),.inl j,⟨?_,?_,.inl ⟨Y,ie.alloc d ob,λb c _=>C0 c,?_,?_⟩⟩,k _⟩
 .show ca M ((w'.heap.size,ob)::bs)=grown (ca M bs) w' (w'.alloc ob);rw[S8];exact ca.cons.symm
 .exact⟨λb c _ _=>C0 c,BR,.refl _,Y,Y⟩
 .rw[i];exact trivial
 grind
def UB(r:Z.past l=false){pre post:uan}{b0:Nat}{bq new:fi}{t:uab}{o:Oper}{a:Act}{K:cv Z->Act->Prop}(h:∀w,w.heap[b0]?=some (.cells bq t)->(execOp a.eval o).run Q w=.ok .skip (w.setRow b0 new)/\∀e∈listed Q b.fn a o w,∃off,e.loc=.cell ⟨b0,off,none⟩/\e.sync=false)(k:K (iH Z l M w0 (pre++(b0,.cells new t)::post)) (a.put o.dst undef)):CX Q b o (iH Z l M w0 (pre++(b0,.cells bq t)::post)) a K:=by
 intro w γ w' u g hS s q;have ie:ah Z M w0 (pre++(b0,.cells bq t)::post) w':=Oq (Z:=Z) (l:=l) w γ w' u g hS s q;have f:ca M (pre++(b0,.cells bq t)::post) b0:=.inr AQ;have y:ca M (pre++(b0,.cells new t)::post)=ca M (pre++(b0,.cells bq t)::post):=by grind[ca]
 obtain⟨v,n⟩:=h w' (ie.cZ (b0,.cells bq t) AQ);have hg:grown (ca M (pre++(b0,.cells bq t)::post)) w' (w'.setRow b0 new)=ca M (pre++(b0,.cells bq t)::post):=kx (setRow_size _ _ _);refine⟨_,_,iH Z l M w0 (pre++(b0,.cells new t)::post),AJ,⟨?_,?_,.inl ⟨Y,ie.row,λb x i=>Ba _ _ ?_,?_,?_⟩⟩,k⟩
 .show ca M (pre++(b0,.cells new t)::post)=grown (ca M (pre++(b0,.cells bq t)::post)) w' (w'.setRow b0 new);grind
 .exact⟨λk _ hk _=>Ba _ _ λe=>hk (e▸f),vdv (setRow_size _ _ _).symm,.refl _,Y,Y⟩
 .rintro rfl;exact ie.eL b (.inr f) i
 .refine AZ _ _ λe m d=>?_;obtain⟨off,j,p⟩:=n e AJ;unfold uh;rw[j];refine .inl ⟨p,.inr (.inl ?_),r⟩;show grown (ca M (pre++(b0,.cells bq t)::post)) w' (w'.setRow b0 new) b0;simp_all
 .rintro⟨e,m,c⟩;obtain⟨off,j,p⟩:=n e m;rcases c with c|c|⟨_,c⟩|⟨_,c⟩|⟨_,k,hk,i⟩
  .grind
  .grind
  .grind
  .grind
  .rw[j]at hk;cases hk;exact ie.eL b0 (.inr f) i
end
end
open RowKit Conc.Lib ConcR.Gen bz
def P8:prog.underlying 89=some (.slice 69):=by simp
theorem asU:(prog.info? 69).map (λi=>(i.zero,i.size,i.bytes))=some (some (.N),1,24):=by kernel_rfl
def P7{a:Act}{b:Frame}{o:Oper}{x y:uau}{N:Nat}(a3:N<=2000000)(c:o.op=.makeSlice 89 x y)(k:a.eval x=.I (N:Int))(j:a.eval y=.I (N:Int))(w:aH):
 (execOp a.eval o).run prog w=.ok (.value (.S w.heap.size 0 N N)) (w.alloc (.cells (madeCells #[.N] N) 69))/\listed prog b.fn a o w=#[]:=by
 obtain⟨i,hi,e⟩:=vak.1 asU;simp at e;obtain⟨g,l,m⟩:=e;have f:(i.bytes:Int)*(N:Int)<=281474976710656:=AJ;have d:=run_makeSlice (P:=prog) w 89 69 i (.N) P8 hi g .i64 .i64 (N:Int) (N:Int) AP (Int.le_refl _) AJ f AP;have h:=events_make (P:=prog) w 89 69 i (.N) P8 hi g .i64 .i64 (N:Int) (N:Int) AP (Int.le_refl _) f AP AJ #[];simp[l]at d;unfold listed execOp;simp only[c,k,j];constructor
 .simp[d];rfl
 .simp[h,vcm]
section
variable{ST:Bool->eo.Lo->aX->Prop}
def Vd{S af N:Nat}(z:0<af)(a3:N=(S+af-1) / af)(hS:S<=1000000)(t:af<=1000000){M:dY}{w0:aH}{bs:uan}:
 iG prog ST true 49 #[.I (S:Int),.I (af:Int)] (iH eo () M w0 bs) (λu p=>∃st bJ,u=.P st 0/\p=iH eo () M w0 ((st,.cells #[.int .i32 0,.int .u32 0,.I (S:Int),.I (af:Int),.I 0,.I 0,.S bJ 0 N N,.N] 173)::(bJ,.cells (madeCells #[.N] N) 69)::bs)):=by
 intro a2 aD aB aJ aL aG csZ hK w γ hF;have l:=uF.nt;obtain⟨i,y,o⟩:∃i:Nat,IntKind.wrap .i64 ((S:Int)+(af:Int))=(i:Int)/\rx (i=S+af):=⟨S+af,GL,Y⟩;obtain⟨g,x,A⟩:∃g:Nat,IntKind.wrap .i64 ((i:Int)-1)=(g:Int)/\rx (g=S+af-1):=⟨S+af-1,by grind[IntKind.wrap_i64],Y⟩;have hq:Int.tdiv (g:Int) (af:Int)=(N:Int):=by grind[rx.out]
 have n:N<=2000000:=by rw[a3];exact vac (Nat.div_le_self _ _) AP
 replace a3:rx (N=(S+af-1) / af):=a3;have s:IntKind.wrap .i64 (N:Int)=(N:Int):=GL;have r:¬af=0:=AP;rw[vdc _ func49 Y];refine vC (γ:=()) uF (λ_ _ h=>h) 200 _ _ _ trivial ?_;unfold iH at hF⊢;walk_nrmf f49
 repeat w_go ah.on
 refine fZ Y hF λd c m f a q k j hF=>?_;refine uo AJ l Y hF (vaq Y Y Ag (P7 (b:=base 49) n Y Y Y a).1) Y (P7 n Y Y Y a).2 (λe=>?_);clear hF;have hF:=e;clear e j k f c;generalize a.heap.size=bJ at hF⊢;generalize a.alloc (.cells (madeCells #[.N] N) 69)=w3 at hF⊢;refine vC (γ:=()) uF (λ_ _ h=>h) 200 _ _ _ trivial ?_;walk_nrm
 repeat w_go ah.on
 refine fZ Y hF λd c m f a q k j hF=>?_;refine uo AJ l Y hF (vaq (v:=.P a.heap.size 0) (w':=a.alloc (.cells #[.int .i32 0,.int .u32 0,.I (S:Int),.I (af:Int),.I 0,.I 0,.S bJ 0 N N,.N] 173)) Y Y Ag A0) Y BJ (λe=>?_);clear hF;have hF:=e;clear e j k f c;generalize a.heap.size=st at hF⊢;generalize a.alloc (.cells #[.int .i32 0,.int .u32 0,.I (S:Int),.I (af:Int),.I 0,.I 0,.S bJ 0 N N,.N] 173)=w3 at hF⊢;refine vC (γ:=()) uF (λ_ _ h=>h) 200 _ _ _ trivial ?_;walk_nrm
 repeat w_go ah.on
 u_in ah.on hF
 refine goes_leave1 Y Y func49 Y ⟨CP,?_⟩;refine vag (λd c=>⟨Y,λm f=>?_⟩);replace hF:=hF.on c;simp_all[iH]
end
theorem Vg:f49.nn=false:=AS
section
variable{ST:Bool->eo.Lo->aX->Prop}
variable{a2:Frame}{aD:Act}{aB:fC}{aJ:Nat}{aL:uad}{aG:uaa}{csZ:fG}
def asV{S af N W:Nat}(A:0<af)(a3:N=(S+af-1) / af)(hS:S<=1000000)(y:af<=1000000){jt:uab}{c f_:Value}{F:uah}{M:dY}{w0:aH}(hinv:∀w,(callMethod (.iface jt c) "Size" #[]).run prog w=.ok (.enter F (#[f_]++#[])) w/\(callMethod (.iface jt c) "Size" #[]).events prog w #[]=#[])(uJ:∀bs,iG prog ST true F (#[f_]++#[]) (iH eo () M w0 bs) (λu bu=>u=.I (S:Int)/\bu=iH eo () M w0 bs))(D:∀st bJ j b2 f wg bs w'(J dn dB I L fm eO fo fp fq ft fI Y X V K U T R Q:Value),ah eo M w0 bs w'->(∀x∈[(wg,.cells #[.int .u64 0,.int .u32 0] 137),(j,.cells #[.P st 0] 125),(st,.cells #[.int .i32 0,.int .u32 0,.I (S:Int),.I (af:Int),.I 0,.I 0,.S bJ 0 N N,.N] 173),(bJ,.cells (madeCells #[.N] N) 69),(f,.cells #[.iface jt c] 124),(b2,.cells #[.I (W:Int),.I (af:Int)] 65)],x∈bs)->(∀x∈bs,x∈[(wg,.cells #[.int .u64 0,.int .u32 0] 137),(j,.cells #[.P st 0] 125),(st,.cells #[.int .i32 0,.int .u32 0,.I (S:Int),.I (af:Int),.I 0,.I 0,.S bJ 0 N N,.N] 173),(bJ,.cells (madeCells #[.N] N) 69),(f,.cells #[.iface jt c] 124),(b2,.cells #[.I (W:Int),.I (af:Int)] 65)])->bf eo prog ST true () () ⟨Conc.G ((base 37).at ⟨#[J,dn,dB,.P f 0,I,L,.P j 0,.P wg 0,fm,eO,fo,fp,fq,ft,.I (W:Int),.I (0:Int),fI,Y,X,V,K,U,T,R,Q],[]⟩ [.code ((bz.dC (f37.body.getD .skip)).getD .skip),.inLoop ((bz.dC (f37.body.getD .skip)).getD .skip),.inBlock 0,.code ((bz.dJ 8 (f37.body.getD .skip)).getD .skip)]) (a2.at aD (.inRegion aB (aJ::aL)::aG)::csZ),w',ca M bs⟩)(w:aH)(hk:ah eo M w0 [] w):
 bf eo prog ST true () () ⟨Conc.G (Frame.enter prog 37 #[.agg #[.I (W:Int),.I (af:Int)],.iface jt c] .normal) (a2.at aD (.inRegion aB (aJ::aL)::aG)::csZ),w,ca M []⟩:=by
 have hF:=hk;have r:=uF.nt;have H:prog.follows .mixedOrders=true:=AS;rw[vdc _ func37 rfl];refine vC (γ:=()) uF AJ 200 _ _ _ trivial ?_;walk_nrmf f37
 repeat w_go ah.on
 refine fZ rfl hF λd b s l a B q o hF=>?_;refine uo AJ r rfl hF (vaq (v:=.P a.heap.size 0) (w':=a.alloc (Obj.cells #[.I (W:Int),.I (af:Int)] 65)) rfl rfl Ag A0) rfl BJ (λk=>?_);clear hF;have hF:=k;clear k o q l b;generalize a.heap.size=b2 at hF⊢;generalize a.alloc (Obj.cells #[.I (W:Int),.I (af:Int)] 65)=w3 at hF⊢;refine vC (γ:=()) uF AJ 200 _ _ _ trivial ?_;walk_nrm
 repeat w_go ah.on
 refine fZ rfl hF λd b s l a B q o hF=>?_;refine uo AJ r rfl hF (vaq (v:=.P a.heap.size 0) (w':=a.alloc (Obj.cells #[.iface jt c] 124)) rfl rfl Ag A0) rfl BJ (λk=>?_);clear hF;have hF:=k;clear k o q l b;generalize a.heap.size=f at hF⊢;generalize a.alloc (Obj.cells #[.iface jt c] 124)=w3 at hF⊢;refine vC (γ:=()) uF AJ 200 _ _ _ trivial ?_;walk_nrm
 repeat w_go ah.on
 refine vag (λd b=>⟨rfl,λs l=>?_⟩);replace hF:=hF.on b;clear b l;have mZ:∀bs:List (Nat×Obj),(f,.cells #[.iface jt c] 124)∈bs->(b2,.cells #[.I (W:Int),.I (af:Int)] 65)∈bs->∀x∈[(b2,.cells #[.I (W:Int),.I (af:Int)] 65),(f,.cells #[.iface jt c] 124)],Dt x M w0 bs:=by
  intro bs P O x E;simp at E;rcases E with rfl|rfl
  .exact .inl O
  .exact .inl P
 refine A3 (Z:=eo) (C:=Ot eo () [(b2,.cells #[.I (W:Int),.I (af:Int)] 65),(f,.cells #[.iface jt c] 124)]) AJ Ag H Ou are (σ:=iH eo () M w0 [(f,.cells #[.iface jt c] 124),(b2,.cells #[.I (W:Int),.I (af:Int)] 65)]) (ic:=se prog ST true _ _ _ _ []) K3 ⟨_,_,_,AJ,rfl⟩ ?_ _ s hF;walk_nrm
 refine iY (i:=0) (v:=.iface jt c) Ou rfl AM AM AM (Wi rfl (z:=(f,.cells #[.iface jt c] 124)) AQ rfl (λw g=>?_)) ⟨_,_,_,AJ,rfl⟩ ?_
 .have n:w.cell? (.a f 0)=some (.iface jt c):=by simp[World.cell?,g]
  refine⟨A0,λe p=>⟨0,?_⟩⟩;have m:=vbo p;simp[go_sem,n]at m;grind
 walk_nrm
 refine eN 2 (.P b2 1) ?_ Ou ⟨_,_,_,AJ,rfl⟩;walk_nrm
 refine iY (i:=3) (v:=.I (af:Int)) Ou rfl AM AM AM (Wi rfl (z:=(b2,.cells #[.I (W:Int),.I (af:Int)] 65)) AQ rfl (λw g=>?_)) ⟨_,_,_,AJ,rfl⟩ ?_
 .have n:w.cell? (.a b2 1)=some (.I (af:Int)):=by simp[World.cell?,g]
  refine⟨A0,λe p=>⟨1,?_⟩⟩;have m:=vbo p;simp[go_sem,n]at m;grind
 walk_nrm
 refine S5 (rs:=[1,5]) AM AQ (λi hi=>?_);simp at hi;rcases hi with rfl|rfl;focus
  refine(yY rfl rfl (y1 (λw=>Tg (rv:=.iface jt c) (vs:=#[]) rfl rfl Ct (hinv w)) (uJ _) ?_));rintro u _ ⟨rfl,rfl⟩;refine⟨⟨_,_,_,AJ,rfl⟩,?_⟩;walk_nrm
  refine S5 (rs:=[4,5]) AM AQ (λi hi=>?_);simp at hi;rcases hi with rfl|rfl;focus
   refine(yY rfl rfl (y1 (λw=>pi (vs:=#[.I (S:Int),.I (af:Int)]) rfl func49 Vg rfl Ct w) (Vd A a3 hS y) ?_));rintro u _ ⟨st,bJ,rfl,rfl⟩;refine⟨⟨_,_,_,AJ,rfl⟩,?_⟩;walk_nrm
   refine rf (i:=5) AM (yX rfl rfl (UA r (ob:=Obj.cells #[.pointer none] 125) (λw=>⟨A0,BJ⟩) (λj=>⟨⟨_,_,_,AJ,rfl⟩,?_⟩)));walk_nrm
   refine rf (i:=6) AM (yX rfl rfl (UB rfl (pre:=[]) (post:=[(st,.cells #[.int .i32 0,.int .u32 0,.I (S:Int),.I (af:Int),.I 0,.I 0,.S bJ 0 N N,.N] 173),(bJ,.cells (madeCells #[.N] N) 69),(f,.cells #[.iface jt c] 124),(b2,.cells #[.I (W:Int),.I (af:Int)] 65)]) (new:=#[.P st 0]) (λw g=>?_) ⟨⟨_,_,_,AJ,rfl⟩,?_⟩))
  rotate_left 2
  focus
   refine(yX rfl rfl (UA r (ob:=Obj.cells #[.pointer none] 125) (λw=>⟨A0,BJ⟩) (λj=>⟨⟨_,_,_,AJ,rfl⟩,?_⟩)));walk_nrm
   refine rf (i:=4) AM (yY rfl rfl (y1 (λw=>pi (vs:=#[.I (S:Int),.I (af:Int)]) rfl func49 Vg rfl Ct w) (Vd A a3 hS y) ?_));rintro u _ ⟨st,bJ,rfl,rfl⟩;refine⟨⟨_,_,_,AJ,rfl⟩,?_⟩;walk_nrm
   refine rf (i:=6) AM (yX rfl rfl (UB rfl (pre:=[(st,.cells #[.int .i32 0,.int .u32 0,.I (S:Int),.I (af:Int),.I 0,.I 0,.S bJ 0 N N,.N] 173),(bJ,.cells (madeCells #[.N] N) 69)]) (post:=[(f,.cells #[.iface jt c] 124),(b2,.cells #[.I (W:Int),.I (af:Int)] 65)]) (new:=#[.P st 0]) (λw g=>?_) ⟨⟨_,_,_,AJ,rfl⟩,?_⟩))
 rotate_left 4
 focus
  refine(yX rfl rfl (UA r (ob:=Obj.cells #[.pointer none] 125) (λw=>⟨A0,BJ⟩) (λj=>⟨⟨_,_,_,AJ,rfl⟩,?_⟩)));walk_nrm
  refine rf (i:=1) AM (yY rfl rfl (y1 (λw=>Tg (rv:=.iface jt c) (vs:=#[]) rfl rfl Ct (hinv w)) (uJ _) ?_));rintro u _ ⟨rfl,rfl⟩;refine⟨⟨_,_,_,AJ,rfl⟩,?_⟩;walk_nrm
  refine rf (i:=4) AM (yY rfl rfl (y1 (λw=>pi (vs:=#[.I (S:Int),.I (af:Int)]) rfl func49 Vg rfl Ct w) (Vd A a3 hS y) ?_));rintro u _ ⟨st,bJ,rfl,rfl⟩;refine⟨⟨_,_,_,AJ,rfl⟩,?_⟩;walk_nrm
  refine rf (i:=6) AM (yX rfl rfl (UB rfl (pre:=[(st,.cells #[.int .i32 0,.int .u32 0,.I (S:Int),.I (af:Int),.I 0,.I 0,.S bJ 0 N N,.N] 173),(bJ,.cells (madeCells #[.N] N) 69)]) (post:=[(f,.cells #[.iface jt c] 124),(b2,.cells #[.I (W:Int),.I (af:Int)] 65)]) (new:=#[.P st 0]) (λw g=>?_) ⟨⟨_,_,_,AJ,rfl⟩,?_⟩))
 all_goals
  first
  |have n:w.cell? (.a j 0)=some (.pointer none):=by simp[World.cell?,g]
   have nD:w.frozen? ⟨j,0,none⟩=false:=by simp[World.frozen?,g]
   have b4:w.setCell ⟨j,0,none⟩ (.P st 0)=w.setRow j #[.P st 0]:=setCell_eq_setRow w j 0 #[.pointer none] 125 (0,0) (.P st 0) g;refine⟨by rw[<-b4];go_simp,λe p=>⟨0,?_⟩⟩;have m:=vbo p;simp[go_sem]at m;rw[Go.events_store _ _ _ _ _ _ rfl,n]at m;grind
  |walk_nrm
   refine A2 AM ?_ _;intro t ep k;replace hF:ah eo M w0 _ t:=k;clear k;unfold iH;refine vC (γ:=()) uF AJ 200 _ _ _ trivial ?_;walk_nrm
   repeat w_go ah.on
   refine fZ rfl hF λd b s l a B q o hF=>?_;refine uo AJ r rfl hF (vaq (v:=.P a.heap.size 0) (w':=a.alloc (Obj.cells #[.int .u64 0,.int .u32 0] 137)) rfl rfl Ag A0) rfl BJ (λk=>?_);clear hF;have hF:=k;clear k o q l b;generalize a.heap.size=wg at hF⊢;generalize a.alloc (Obj.cells #[.int .u64 0,.int .u32 0] 137)=w3 at hF⊢;refine vC (γ:=()) uF AJ 200 _ _ _ trivial ?_;walk_nrm
   repeat w_go ah.on
   refine fZ rfl hF λd b s l a B q o hF=>?_;have g:=hF.cZ (b2,.cells #[.I (W:Int),.I (af:Int)] 65) AQ;have n:a.cell? (.a b2 0)=some (.I (W:Int)):=by simp[World.cell?,g]
   refine s9 AJ rfl AJ (vaq (v:=.I (W:Int)) rfl rfl Ag A0) rfl (λe p=>?_) ?_
   .have m:=vbo p;simp[go_sem,n]at m;subst m;exact⟨rfl,.inr (.inr AQ)⟩
   clear g n o q l b;refine vC (γ:=()) uF AJ 200 _ _ _ trivial ?_;walk_nrm
   iterate 4 w_go ah.on
   refine vag (λd b=>⟨rfl,λs l=>?_⟩);replace hF:=hF.on b;simp only[f37,vae,bz.dC,bz.dJ,Nat.reduceBEq,vaf,↓reduceIte]at D;exact D st bJ j b2 f wg _ d (.agg #[.I (W:Int),.I (af:Int)]) (.iface jt c) (.P b2 0) _ _ (.iface jt c) (.I (S:Int)) (.P b2 1) (.I (af:Int)) (.P st 0) (.P b2 0) undef undef undef undef undef undef undef undef undef hF AQ AQ
end
end m8
namespace uG
open Conc ConcM au bn ai e_
section
section
variable{c:da}{Q:cf}{Stop:Bool->ai.Lo At->aX->Prop}{l:ai.Lo At}{γ:ai.aN cb}{X:aX}{w':aH}
def atk{P:cf}{main:Bool}{b:Frame}{a:Act}{k:uaa}{cs:fG}{w:aH}{ops:fC}{i:Nat}{rest:uad}{o:Oper}{f:uah}{x:uau}{cap:fi}{ats:uap}(g:ops[i]?=some o)(c:veg o ops a.tmps=true)(hk:b.kind≠ .early)(e:o.op=.go {callee:=.value x,args:=#[],argTypes:=ats})(j:a.eval x=.func (.func f) #[] cap):
 stepG P main (Conc.G (b.at a (.inRegion ops (i::rest)::k)) cs) w=.spawn (Conc.G (b.at (a.put o.dst undef) (.inRegion ops rest::k)) cs) (born P (qd f cap)) w #[]:=by
 have d:(execOp a.eval o).run P w=.ok (.spawn (qd f cap)) w:=by simp_all[execOp,resolve,Deferred.ofValue,qd]
 have h:listed P b.fn a o w=#[]:=by simp_all[listed,execOp,resolve,Deferred.ofValue,vcm]
 rw[stepG_spawn g c hk d Y,h]
def atl(p:dN (am (ar c)) l γ X w'){g1 child:uaf}(hs:stepG Q true X.g w'=.spawn g1 child w' #[])(hrun:g1.status=.running)(o:child.status=.running){f k:Nat}(q:l=⟨.idle,false,0,f+20,.main (.spawn k true)⟩)(hk:c.rows c.N+k+1<=c.most)(h:bf (am (ar c)) Q Stop true ⟨.idle,false,0,f,.main (.spawn (k+1) false)⟩ {γ with a6:=γ.a6-1} ⟨g1,w',X.mine⟩)(v:bf (am (ar c)) Q Stop false ⟨.idle,false,0,19,.work .free []⟩ {γ with a6:=γ.a6-1} ⟨child,w',λ_=>False⟩):Then (Z:=am (ar c)) Q Stop true l γ X w':=by
 have hg:grown X.mine w' w'=X.mine:=kx Y;have key:∀(ls:List (ai.Lo At)),ls[0]?=some l->s6 (ar c) γ ls->1<=γ.a6/\((ls.set 0 (⟨.idle,false,0,f,.main (.spawn (k+1) false)⟩:ai.Lo At)).map (·.fuel)).sum+19+2*q9 γ.mu (ls.map (·.mx))+c.C*(c.N-γ.al.taken)<=γ.a6-1:=by
  intro ls hi b;have m:0<ls.length:=(vab.1 hi).1;have e:=Gm (ls.map (·.fuel)) 0 f AJ;have y:(ls.set 0 (⟨.idle,false,0,f,.main (.spawn (k+1) false)⟩:ai.Lo At)).map (·.fuel)=(ls.map (·.fuel)).set 0 f:=BR;rw[y];have w:(ls.map (·.fuel))[0]'AJ=f+20:=by grind
  rw[w]at e;have D:(ls.map (λx:ai.Lo At=>x.fuel)).sum+2*q9 γ.mu (ls.map (λx:ai.Lo At=>x.mx))+c.C*(c.N-γ.al.taken)<=γ.a6:=b.hJ;grind
 refine .born (l1:=(⟨.idle,false,0,f,.main (.spawn (k+1) false)⟩:ai.Lo At)) (bB:=({γ with a6:=γ.a6-1}:ai.aN cb)) (lc:=(⟨.idle,false,0,19,.work .free []⟩:ai.Lo At)) Y hs ⟨hrun,o,p_ _ _ _,p.mt,?_,λls hi b=>?_,PA,⟨by rw[q],Y,Y,Y⟩,AJ,⟨by rw[q];rfl,Y⟩,λt r=>r,λe=>e,λe=>e⟩ AJ v
 .obtain⟨ls,i,hi,b⟩:∃(ls:List (ai.Lo At))(i:Nat),ls[i]?=some l/\s6 (ar c) γ ls:=p.sees;have h0:=b.pe.only i (.spawn k true) AJ;grind
 .have a:s6 (ar c) γ ls:=b;obtain⟨B,A⟩:=key ls hi a;have m:0<ls.length:=(vab.1 hi).1;have s:(ls.set 0 (⟨.idle,false,0,f,.main (.spawn (k+1) false)⟩:ai.Lo At)++[(⟨.idle,false,0,19,.work .free []⟩:ai.Lo At)]).map (·.mx)=ls.map (·.mx)++[.idle]:=by grind[SU]
  have z:(ls.set 0 (⟨.idle,false,0,f,.main (.spawn (k+1) false)⟩:ai.Lo At)++[(⟨.idle,false,0,19,.work .free []⟩:ai.Lo At)]).map (·.al)=(ls.map (·.al)).set 0 (.main (.spawn (k+1) false))++[.work .free []]:=by simp_all
  have d:(ls.map (·.al))[0]?=some (.main (.spawn k true)):=AJ;have get:∀{i:Nat}{x:ai.Lo At},(ls.set 0 (⟨.idle,false,0,f,.main (.spawn (k+1) false)⟩:ai.Lo At)++[(⟨.idle,false,0,19,.work .free []⟩:ai.Lo At)])[i]?=some x->x=⟨.idle,false,0,f,.main (.spawn (k+1) false)⟩\/ls[i]?=some x\/x=⟨.idle,false,0,19,.work .free []⟩:=by grind
  refine⟨⟨by rw[s];exact ai.dm.push a.l3,by rw[z];exact a.pe.born d,?_,λi x g ht=>?_,λi x g u=>?_,?_⟩,λj t r E=>.inr ⟨AJ,AJ,.refl _ _⟩⟩
  .rw[s];have ht:q9 γ.mu (ls.map (·.mx)++[.idle])=q9 γ.mu (ls.map (·.mx)):=by unfold q9;rw[SN,SN];rfl
   grind
  .rcases get g with rfl|n|rfl
   .cases ht
   .exact a.aS i x n ht
   grind
  .rcases get g with rfl|n|rfl
   .rfl
   .exact a.JB i x n u
   .rfl
  .have C:=a.pe.pg k true d;grind
end
end
end uG
namespace hU
open Conc RowKit Conc.Lib ConcR.Gen ConcM au bn ai e_ g6 fF
theorem SB:f112.nn=false:=AS
theorem atn:f111.nn=false:=AS
theorem ato:f110.nn=false:=AS
def Si(a:uab)(pv:Value)(w:aH):(Instr.typeAssert (.iface 76 pv) a 76 false).run prog w=.ok pv w/\(Instr.typeAssert (.iface 76 pv) a 76 false).events prog w #[]=#[]:=by constructor<;>simp[Instr.typeAssert,go_sem]
theorem Sg:f109.nn=false:=AS
section
variable{c:da}{Stop:Bool->ai.Lo At->aX->Prop}{fr a7:uas}{fj f_:Value}{ip:uah}{lF cO:uae}
def atp{bY:aH}(J:rh c bY prog Stop 112 fj ip f_ fr a7 lF cO){f T:Nat}{q:uac}{M:dY}{w0:aH}(hT:T<c.N)(hI:n5 c bY w0)(atq:c.bad T=true->∀M' w1,ah (am (ar c)) M' w1 [] w1->n5 c bY w1->iG prog Stop false 110 #[.P c.st 0,c.place T] (dZ c ⟨.idle,false,0,f+16,.work (.has T) q⟩ M' w1) (λu E=>u=.tuple #[]/\∃n w2,gp (am (ar c)) M' w1 n w2/\E=dZ c ⟨.idle,false,0,f,.work .free ((T,undef)::q)⟩ n w2))(Q:c.bad T=false->∀s aA M' w1,ah (am (ar c)) M' w1 [] w1->iG prog Stop false 111 #[.P c.st 0,.agg #[.I (T:Int),.I (fr T:Int),.I (a7 T:Int)],.slice s (c.rows T) aA] (dZ c ⟨.idle,false,0,f+16,.work (.has T) q⟩ M' w1) (λu E=>u=.tuple #[]/\E=dZ c ⟨.idle,false,0,f,.work .free ((T,.slice s (c.rows T) aA)::q)⟩ M' w1)):
 iG prog Stop false 84 #[.P c.st 0,fj,.agg #[.I (T:Int),.I (fr T:Int),.I (a7 T:Int)]] (dZ c ⟨.idle,false,0,f+16,.work (.has T) q⟩ M w0) (λu E=>u=.tuple #[]/\∃v M' w1,gp (am (ar c)) M w0 M' w1/\(c.bad T=false->cO T v M' w1)/\E=dZ c ⟨.idle,false,0,f,.work .free ((T,v)::q)⟩ M' w1):=by
 intro a2 aD aB aJ aL aG csZ hK w γ hS;have hF:ah (am (ar c)) M w0 [] w:=hS;clear hS;have j7:=(c_ (bA c)).nt;have tQ:prog.follows .mixedOrders=true:=AS;rw[vdc _ func84 rfl];unfold dZ;rw[<-mT (M:=M)];refine bb (bA c) ?_;walk_nrmf f84
 repeat w_go ah.on
 refine fZ rfl hF λb a y p d av I F hF=>?_;refine uo AJ j7 rfl hF (vaq (v:=.P d.heap.size 0) (w':=d.alloc (Obj.cells #[.P c.st 0] 125)) rfl rfl Ag A0) rfl BJ (λR=>?_);clear hF;have hF:=R;clear R F I p a;generalize d.heap.size=x at hF⊢;generalize d.alloc (Obj.cells #[.P c.st 0] 125)=O at hF⊢;refine bb (bA c) ?_;walk_nrm
 repeat w_go ah.on
 refine fZ rfl hF λb a y p d av I F hF=>?_;refine uo AJ j7 rfl hF (vaq (v:=.P d.heap.size 0) (w':=d.alloc (Obj.cells #[.I (T:Int),.I (fr T:Int),.I (a7 T:Int)] 188)) rfl rfl Ag A0) rfl BJ (λR=>?_);clear hF;have hF:=R;clear R F I p a;generalize d.heap.size=cK at hF⊢;generalize d.alloc (Obj.cells #[.I (T:Int),.I (fr T:Int),.I (a7 T:Int)] 188)=O at hF⊢;refine bb (bA c) ?_;walk_nrm
 repeat w_go ah.on
 u_in ah.on hF
 rw[aoE rfl rfl Ag rfl rfl];simp only[vdg];refine⟨CP,?_⟩;walk_nrm
 repeat w_go ah.on
 refine vag (λb a=>⟨rfl,λy p=>?_⟩);replace hF:=hF.on a;clear a p;have l:=hF.cZ (x,.cells #[.P c.st 0] 125) AQ;have o:=hF.cZ (cK,.cells #[.I (T:Int),.I (fr T:Int),.I (a7 T:Int)] 188) AQ;have g:ca M [(cK,.cells #[.I (T:Int),.I (fr T:Int),.I (a7 T:Int)] 188),(x,.cells #[.P c.st 0] 125)] x:=.inr AQ;have k:ca M [(cK,.cells #[.I (T:Int),.I (fr T:Int),.I (a7 T:Int)] 188),(x,.cells #[.P c.st 0] 125)] cK:=.inr AQ;have X:=ah.qe hF;refine A3 (Z:=am (ar c)) (C:=JT c (x,.cells #[.P c.st 0] 125) (cK,.cells #[.I (T:Int),.I (fr T:Int),.I (a7 T:Int)] 188)) AJ Ag tQ ux aaW (σ:=dZ c ⟨.idle,false,0,f+16,.work (.has T) q⟩ (ca M [(cK,.cells #[.I (T:Int),.I (fr T:Int),.I (a7 T:Int)] 188),(x,.cells #[.P c.st 0] 125)]) b) (ic:=se prog Stop false _ _ _ _ []) K3 ⟨_,_,_,rfl,⟨g,l⟩,⟨k,o⟩,rfl⟩ ?_ _ y X;walk_nrm
 refine iY (i:=0) (v:=.P c.st 0) ux rfl AM AM AM (JU LF rfl (λw z=>?_)) ⟨_,_,_,rfl,⟨g,l⟩,⟨k,o⟩,rfl⟩ ?_
 .have H:w.cell? (.a x 0)=some (.P c.st 0):=by simp[World.cell?,z]
  refine⟨A0,λe B=>⟨0,?_⟩⟩;have D:=vbo B;simp[go_sem,H]at D;grind
 walk_nrm
 refine iY (i:=1) (v:=.agg #[.I (T:Int),.I (fr T:Int),.I (a7 T:Int)]) ux rfl AM AM AM (JU LO rfl (λw z=>⟨(Bs z rfl rfl).1,λe B=>?_⟩)) ⟨_,_,_,rfl,⟨g,l⟩,⟨k,o⟩,rfl⟩ ?_
 .have D:=vbo B;rw[(Bs z rfl rfl).2]at D;grind
 walk_nrm
 refine iY (i:=2) (v:=fj) ux rfl AM AM AM (A8 rfl (λ_=>A0) (λ_=>BJ)) ⟨_,_,_,rfl,⟨g,l⟩,⟨k,o⟩,rfl⟩ ?_;walk_nrm
 refine iY (i:=3) (v:=.P cK 1) ux rfl AM AM AM (A8 rfl (λ_=>A0) (λ_=>BJ)) ⟨_,_,_,rfl,⟨g,l⟩,⟨k,o⟩,rfl⟩ ?_;walk_nrm
 refine iY (i:=4) (v:=.I (fr T:Int)) ux rfl AM AM AM (JU LO rfl (λw z=>?_)) ⟨_,_,_,rfl,⟨g,l⟩,⟨k,o⟩,rfl⟩ ?_
 .have H:w.cell? (.a cK 1)=some (.I (fr T:Int)):=by simp[World.cell?,z]
  refine⟨A0,λe B=>⟨1,?_⟩⟩;have D:=vbo B;simp[go_sem,H]at D;grind
 walk_nrm
 refine iY (i:=5) (v:=.P cK 2) ux rfl AM AM AM (A8 rfl (λ_=>A0) (λ_=>BJ)) ⟨_,_,_,rfl,⟨g,l⟩,⟨k,o⟩,rfl⟩ ?_;walk_nrm
 refine iY (i:=6) (v:=.I (a7 T:Int)) ux rfl AM AM AM (JU LO rfl (λw z=>?_)) ⟨_,_,_,rfl,⟨g,l⟩,⟨k,o⟩,rfl⟩ ?_
 .have H:w.cell? (.a cK 2)=some (.I (a7 T:Int)):=by simp[World.cell?,z]
  refine⟨A0,λe B=>⟨2,?_⟩⟩;have D:=vbo B;simp[go_sem,H]at D;grind
 walk_nrm
 refine rf (i:=7) AM (yY rfl rfl (y1 (λw=>Tg (rv:=fj) (vs:=#[.I (fr T:Int),.I (a7 T:Int)]) rfl rfl Ct (J.inv #[.I (fr T:Int),.I (a7 T:Int)] w)) (J.aoN T ⟨.idle,false,0,f+16,.work (.has T) q⟩ _ _ hT rfl X (hI.n4 hF)) ?_));rintro u _ ⟨dv,w1,j,Vk,rfl⟩;refine⟨⟨_,_,_,rfl,⟨j.sub _ g,j.heap g l⟩,⟨j.sub _ k,j.heap k o⟩,rfl⟩,?_⟩;walk_nrm
 have bR:=J.aoO T ⟨.idle,false,0,f+16,.work (.has T) q⟩ _ _ u hT rfl j.n4 ((hI.n4 hF).more j) Vk;cases L:c.bad T with
 |true=>
  have g8:=gp.start hF j;have U:=j.heap g l;have Vl:=j.sub _ g;have S:=(hI.n4 hF).more j;clear Q j Vk X g k l o hF;refine rf (i:=8) AM (aou rfl rfl (aoL (λw=>pi (vs:=#[u]) rfl func112 SB rfl Ct w) (λa' i rest hd w γ hS=>?_)));refine bR _ a' _ i rest _ _ (λe E hv w γ hS=>?_) w γ hS;obtain⟨n,w2,m,oq,rfl⟩:=hv;obtain rfl:e=y2 (c.place T):=by
   rcases oq with⟨h,-⟩|⟨-,h⟩
   .rw[L]at h;cases h
   .exact h
  have hF:ah (am (ar c)) n w2 [] w:=hS;clear hS oq bR;obtain⟨tm,ds⟩:=a';simp only at hd;subst hd;have N:=g8.trans m;have l:=m.heap Vl U;have g:=m.sub _ Vl;have ry:=S.more m;clear g8 m U Vl S;show bf (am (ar c)) prog Stop false _ γ ⟨Conc.G {(base 84).at ⟨tm,[qd 109 #[.P x 0]]⟩ _ with mode:=.panicking [{v:=.iface 76 (c.place T),recovered:=false}]} _,w,n⟩;rw[<-mT (M:=n)];refine bb (bA c) ?_;u_in ah.on hF
  rw[aoH rfl func109 Sg rfl];simp only[vdg];refine⟨CP,?_⟩;walk_nrmf f109
  repeat w_go ah.on
  u_in ah.on hF
  rw[aoI rfl rfl rfl rfl A0 BJ];simp only[vdg];refine⟨CP,?_⟩;walk_nrm
  repeat w_go ah.on
  refine fZ rfl hF λb a y p d av I F hF=>?_;refine Gy AJ (vaq (v:=.T) rfl rfl Ag (by simp[go_sem,binOp,Op.equal];rw[show Op.maxDepth=9999+1 from rfl,Op.equalIn];simp[go_sem])) rfl BK ?_;clear F I p a;refine bb (bA c) ?_;walk_nrm
  repeat w_go ah.on
  refine vag (λb a=>⟨rfl,λy p=>?_⟩);replace hF:=hF.on a;clear a p;have V:=ah.qe hF;rw[mT]at V;rw[mT];have A:gp (am (ar c)) n w2 n b:=⟨λ_ h=>h,hF.rw,V⟩;have t:=A.heap g l;have z6:=ry.more A;replace N:=N.trans A;clear hF A l ry;refine A3 (Z:=am (ar c)) (C:=JT c (x,.cells #[.P c.st 0] 125) (x,.cells #[.P c.st 0] 125)) AJ Ag tQ ux aaW (σ:=dZ c ⟨.idle,false,0,f+16,.work (.has T) q⟩ n b) (ic:=se prog Stop false _ _ _ _ []) K3 ⟨_,_,_,rfl,⟨g,t⟩,⟨g,t⟩,rfl⟩ ?_ _ y V;walk_nrm
  refine iY (i:=0) (v:=.P c.st 0) ux rfl AM AM AM (JU LF rfl (λw z=>?_)) ⟨_,_,_,rfl,⟨g,t⟩,⟨g,t⟩,rfl⟩ ?_
  .have H:w.cell? (.a x 0)=some (.P c.st 0):=by simp[World.cell?,z]
   refine⟨A0,λe B=>⟨0,?_⟩⟩;have D:=vbo B;simp[go_sem,H]at D;grind
  walk_nrm
  refine iY (i:=1) (v:=.iface 76 (c.place T)) ux rfl AM AM AM (A8 rfl (λ_=>A0) (λ_=>BJ)) ⟨_,_,_,rfl,⟨g,t⟩,⟨g,t⟩,rfl⟩ ?_;walk_nrm
  refine iY (i:=2) (v:=c.place T) ux rfl AM AM AM (A8 rfl (λ_=>by go_simp;simp[(Si _ _ _).1]) (λ_=>by simp[listed,go_sem,(Si _ _ _).2];rfl)) ⟨_,_,_,rfl,⟨g,t⟩,⟨g,t⟩,rfl⟩ ?_;walk_nrm
  refine rf (i:=3) AM (yY rfl rfl (y1 (λw=>pi (vs:=#[.P c.st 0,c.place T]) rfl func110 ato rfl Ct w) (atq L n b V z6) ?_));rintro u2 _ ⟨rfl,W,O,K,rfl⟩;refine⟨⟨_,_,_,rfl,⟨K.sub _ g,K.heap g t⟩,⟨K.sub _ g,K.heap g t⟩,rfl⟩,?_⟩;walk_nrm
  refine A2 AM ?_ _;replace N:=N.trans K;clear K g t V z6;intro r ep hF;replace hF:ah (am (ar c)) W O [] r:=hF;unfold dZ;rw[<-mT (M:=W)];refine bb (bA c) ?_;walk_nrm
  repeat w_go ah.on
  u_in ah.on hF
  rw[aoJ rfl rfl func109 rfl rfl];simp only[vdg];refine⟨CP,?_⟩;u_in ah.on hF
  refine vdq (todo:=_) rfl rfl func84 rfl ⟨CP,?_⟩;refine vag (λb a=>⟨rfl,λy p=>?_⟩);replace hF:=hF.on a;rw[mT];exact hK (.tuple #[]) (dZ c ⟨.idle,false,0,f,.work .free ((T,undef)::q)⟩ W O) ⟨rfl,undef,W,O,N,λh=>(by rw[L]at h;cases h),rfl⟩ b y hF
 |false=>
 replace Q:=Q L;refine rf (i:=8) AM (yY rfl rfl (y1 (λw=>pi (vs:=#[u]) rfl func112 SB rfl Ct w) (bR.ret (pf:=λv E=>∃M' P,gp (am (ar c)) dv w1 M' P/\cO T v M' P/\E=dZ c ⟨.idle,false,0,f+16,.work (.has T) q⟩ M' P) (λe E⟨M',P,h1,h2,h3⟩=>?_)) ?_))
 .rcases h2 with⟨-,v,Y,aU⟩|⟨Y,-⟩
  .exact⟨v,Y,M',P,h1,aU,h3⟩
  .rw[L]at Y;cases Y
 clear bR;rintro v _ ⟨n,w2,m,vK,rfl⟩;refine⟨⟨_,_,_,rfl,⟨m.sub _ (j.sub _ g),m.heap (j.sub _ g) (j.heap g l)⟩,⟨m.sub _ (j.sub _ k),m.heap (j.sub _ k) (j.heap k o)⟩,rfl⟩,?_⟩;obtain⟨s,aA,rfl⟩:=J.slice _ _ _ _ L vK;walk_nrm
 refine rf (i:=9) AM (yY rfl rfl (y1 (λw=>pi (vs:=#[.P c.st 0,.agg #[.I (T:Int),.I (fr T:Int),.I (a7 T:Int)],.slice s (c.rows T) aA]) rfl func111 atn rfl Ct w) (Q s aA n w2 m.n4) ?_));rintro u2 _ ⟨rfl,rfl⟩;refine⟨⟨_,_,_,rfl,⟨m.sub _ (j.sub _ g),m.heap (j.sub _ g) (j.heap g l)⟩,⟨m.sub _ (j.sub _ k),m.heap (j.sub _ k) (j.heap k o)⟩,rfl⟩,?_⟩;walk_nrm
 refine A2 AM ?_ _;have g8:=(gp.start hF j).trans m;clear j m Vk X g k l o hF Q;intro r ep hF;replace hF:ah (am (ar c)) n w2 [] r:=hF;unfold dZ;rw[<-mT (M:=n)];refine bb (bA c) ?_;walk_nrm
 repeat w_go ah.on
 u_in ah.on hF
 rw[aoF rfl func109 Sg rfl];simp only[vdg];refine⟨CP,?_⟩;walk_nrmf f109
 repeat w_go ah.on
 u_in ah.on hF
 rw[aoG rfl rfl rfl rfl A0 BJ];simp only[vdg];refine⟨CP,?_⟩;walk_nrm
 repeat w_go ah.on
 refine fZ rfl hF λb a y p d av I F hF=>?_;refine Gy AJ (vaq (v:=.F) rfl rfl Ag (by simp[go_sem])) rfl BK ?_;clear F I p a;refine bb (bA c) ?_;walk_nrm
 repeat w_go ah.on
 u_in ah.on hF
 refine bz.KH rfl rfl func109 rfl rfl ⟨CP,?_⟩;u_in ah.on hF
 refine vdq rfl rfl func84 rfl ⟨CP,?_⟩;refine vag (λb a=>⟨rfl,λy p=>?_⟩);replace hF:=hF.on a;rw[mT];exact hK (.tuple #[]) (dZ c ⟨.idle,false,0,f,.work .free ((T,.slice s (c.rows T) aA)::q)⟩ n w2) ⟨rfl,_,n,w2,g8,λ_=>vK,rfl⟩ b y hF
end
end hU
namespace aK
open Conc ConcM au bn cC c5
variable{dT:Func}{gK:Code}
section
variable{O:fk}
def cP(M:dY)(w w':aH):Prop:=∀b c e fr,M b->w.heap[b]?=some (.cells c e fr)->w'.heap[b]?=some (.cells c e fr)
theorem cP.refl(M:dY)(w:aH):cP M w w:=λ_ _ _ _ _ h=>h
theorem cP.trans{M M':dY}{a b c:aH}(h:cP M a b)(g:∀b,M b->M' b)(k:cP M' b c):cP M a c:=λx c e fr d f=>k x c e fr (g x d) (h x c e fr d f)
def cP.JF{M:dY}{w w':aH}(h:∀b,M b->w'.heap[b]?=w.heap[b]?):cP M w w':=λb _ _ _ a e=>(h b a).trans e
theorem cP.cell{M:dY}{w w':aH}(h:cP M w w'){a:Addr}{v:Value}(g:M a.block)(hv:w.cell? a=some v):w'.cell? a=some v:=by obtain⟨c,e,fr,f,d,b⟩:=u9 hv;exact oo (h _ _ _ _ g f) d b
section
variable{P:cf}{Post:fX}{n:Nat}{Shun:uai}{M:dY}{w:aH}
def cP.carry{w':aH}(h:cP M w w')(b:Home O P M Shun w):Carry (bG M) w w':=by
 rintro a a' v ⟨⟨f,hd⟩,d,c⟩ hv;have e:a=a':=by obtain⟨x,y,z⟩:=a';obtain⟨p,q,r⟩:=a;grind
 subst e;exact⟨v,h.cell hd hv,b.cell hd hv⟩
def VD{ρ:Ren}(e:∀a b c,ρ.rel a b->ρ.rel a c->b=c){x y:fi}(h:aM ρ x y)(d:aM ρ x x):y=x:=by
 apply Array.ext
 .exact h.size.symm
 .intro i hi f;exact(Um e (d.get i x[i] x[i] AJ AJ) (h.get i x[i] y[i] AJ AJ)).symm
def Behind.auq{ρ:Ren}{n l w':aH}(h:Behind O P M Shun w ρ l w')(m:Home O P M Shun w)(C:gm (c0 P) M (hY M) w n)(hk:∀b c e z,M b->n.heap[b]?=some (.cells c e z)->l.heap[b]?=some (.cells c e z)):cP M w w':=by
 intro b c e fr a i;obtain⟨q,u,A⟩:=C.cells m.cl a i;have x:=A a;subst x;have y:=hk b c e _ a u;obtain⟨S,j⟩:=h.rel;obtain⟨o,o',g,f,r⟩:=j.obj b b (h.le.1 b b ⟨Y,a⟩);rw[y]at g;cases g;cases r with
 |@cells _ E _ _ B t s=>
  have v:B=q:=s.2 Y;subst v;obtain⟨D,k,d⟩:=m.cl b a;rw[i]at k;cases k;rcases d with d|d
  .cases d with|cells _ p _=>rw[VD j.one t (p.mono h.le)]at f;exact f
  .exact d.elim
def aur{ρ:Ren}{r w':aH}(g:Behind O P M Shun w ρ r w'){a a':Act}(l:aM (bG M) a.tmps a.tmps)(hd:a.defers=[])(i:a'.defers=[]){dst:Option Tmp}{v:Value}(h:aM ρ (a.put dst v).tmps a'.tmps)(o:∀d,dst=some d->d<a.tmps.size):
 ∃u,a'=a.put dst u/\(dst≠none->ax ρ v u):=by
 obtain⟨b,m⟩:=a';have i:m=[]:=i;subst i;obtain⟨S,q⟩:=g.rel;cases dst with
 |none=>refine⟨undef,?_,AJ⟩;have e:b=a.tmps:=VD q.one h (l.mono g.le);subst e;obtain⟨t,ds⟩:=a;have hd:ds=[]:=hd;subst hd;rfl
 |some d=>
  have c:=o d Y;have hsz:b.size=a.tmps.size:=by have:=h.size;grind[gY]
  have p:b[d]?=some (b[d]'(hsz▸c)):=AJ;refine⟨b[d]'(hsz▸c),?_,λ_=>h.get d _ _ (by simp[Act.put,c]) p⟩;show _=(⟨a.tmps.setIfInBounds d _,a.defers⟩:Act);rw[hd];congr 1
  apply Array.ext
  .grind
  .intro j k f;have x:j<a.tmps.size:=AJ;apply van;rw[<-vax k,<-vax f,vam];by_cases s:d=j
   .grind
   .simp[s];have n:ax ρ a.tmps[j] b[j]:=h.get j _ _ (by grind[Act.put]) AJ;rw[vax k,vax x,g.same (l.get j _ _ AJ AJ) n]
variable{f:uah}{a:Act}{ops:fC}{i:Nat}{rest:uad}{k:uaa}{cs:fG}{o:Oper}
def aus(x:(c0 P).Good)(A:Home O P M Shun w)(t:ln P f)(l:aM (bG M) a.tmps a.tmps)(hd:a.defers=[])(hk:(Item.inRegion ops []::k).all (gL P)=true)(s:ops[i]?=some o)(q:veg o ops a.tmps=true)(p:∀d,o.dst=some d->d<a.tmps.size){hO:ubq}(hrun:∀c,gm (c0 P) M (hY M) w c->∀T,∃v w1,hO c v w1/\((execOp a.eval o).run (ae P true) {c with tape:=T}=.ok (.value v) w1\/((execOp a.eval o).run (ae P true) {c with tape:=T}=.ok .skip w1/\v=undef)))(z:∀ρ c v w1 u w',gm (c0 P) M (hY M) w c->hO c v w1->(o.dst≠none->ax ρ v u)->Behind O P M Shun w ρ w1 w'->aM (bG (qk ρ)) (a.put o.dst u).tmps (a.put o.dst u).tmps->bK P Post n Shun 0 (a0 ((base f).at (a.put o.dst u) (.inRegion ops rest::k)) cs) w'):
 bK P Post n Shun 0 (a0 ((base f).at a (.inRegion ops (i::rest)::k)) cs) w:=by
 simp only[vbk,vah]at hk;refine wp_move x A t l hd (k:=.inRegion ops (i::rest)::k) (k':=.inRegion ops rest::k) JD JD (Q:=λc a1 w1=>∃v,a1=a.put o.dst v/\hO c v w1) (λc j T b cs=>?_) ?_
 .obtain⟨v,w1,e,g⟩:=hrun c j T;refine⟨a.put o.dst v,w1,⟨v,Y,e⟩,by grind[put_defers],.one (step_lone_go ?_)⟩;rw[stepG_op s q];have B:∀v,(b.at a (.inRegion ops (i::rest)::k)).finish v=b.at (a.put o.dst v) (.inRegion ops rest::k):=by grind[Frame.finish_at]
  rcases g with g|⟨g,rfl⟩
  .simp_all[stepG.apply]
  simp_all[stepG.apply]
 .rintro ρ c a1 w1 a' w' j ⟨v,rfl,e⟩ m y h;obtain⟨u,rfl,r⟩:=aur h l hd y m p;exact z ρ c v w1 u w' j e r h (h.all m)
def aut(z:(c0 P).Good)(l:Home O P M Shun w)(t:ln P f)(y:aM (bG M) a.tmps a.tmps)(hd:a.defers=[])(hk:(Item.inRegion ops []::k).all (gL P)=true)(s:ops[i]?=some o)(q:veg o ops a.tmps=true){d:Tmp}(p:o.dst=some d/\d<a.tmps.size){v:Value}(hv:ax (bG M) v v)(hrun:∀c,gm (c0 P) M (hY M) w c->∀T,(execOp a.eval o).run (ae P true) {c with tape:=T}=.ok (.value v) {c with tape:=T})(A:∀M' w',(∀b,M b->M' b)->Home O P M' Shun w'->oM w w'->cP M w w'->aM (bG M') (a.put (some d) v).tmps (a.put (some d) v).tmps->bK P Post n Shun 0 (a0 ((base f).at (a.put (some d) v) (.inRegion ops rest::k)) cs) w'):
 bK P Post n Shun 0 (a0 ((base f).at a (.inRegion ops (i::rest)::k)) cs) w:=by
 refine aus z l t y hd hk s q AJ (hO:=λc h w1=>h=v/\∃T,w1={c with tape:=T}) (λc m T=>⟨v,_,⟨Y,T,Y⟩,AJ⟩) ?_;rintro ρ c h w1 u w' m ⟨rfl,T,rfl⟩ r g j;have e:u=h:=g.same hv (r AJ);subst e;rw[p.1]at j⊢;exact A (qk ρ) w' (λb x=>g.mem x) g.gq g.since (g.auq l m AJ) j
def zg{d:Nat}{g:uah}{args:uaw}{ats:uap}(c:o.op=.call {callee:=.value (.func g),args,argTypes:=ats})(hg:P.funcs[g]?=some dT)(m:(dT.name== "runtime.NumGoroutine")=false)(p:dT.body=some gK){vs:fi}(e:args.map a.eval=vs){V:ube}(hn:n+16*d<=200)(C:Home O P M Shun w)(s:xN P M f a ops i k)(r:ops[i]?=some o)(q:veg o ops a.tmps=true)(t:∀k,ei O P Post g vs M (w.at k) d V)(A:∀u M' w' h l,h<=n+16*d->Home O P M' l w'->(∀b,M b->M' b)->ax (bG M') u u->oM w w'->V u M' w'->bK P Post h l 0 (a0 ((base f).at (a.put o.dst u) (.inRegion ops rest::k)) cs) w'):
 bK P Post n Shun 0 (a0 ((base f).at a (.inRegion ops (i::rest)::k)) cs) w:=by
 refine vU (mD Y (w1:=w) (es:=#[]) (λk'=>(stepG_enter r q (by simp[base]) (hU.pi (b:=base f) c hg m p e _).1).trans (vbp (λes=>GStep.go _ _ es) (hU.pi (b:=base f) c hg m p e _).2)) AQ Kj (.stop λk'=>?_));refine t k' n Shun hn (C.at _) f a ops i rest k cs s (λu M' w' h l z y x v j B=>?_);have:=A u M' w' h l z y x v ⟨j.size,j.later,j.output,j.tape⟩ B;grind
theorem count_set{aq:uar}{i:Nat}(h:aq.getD i true=false):(aq.setIfInBounds i true).toList.count false+1=aq.toList.count false:=by
 have hi:i<aq.size:=by grind
 have hv:aq[i]=false:=BR;grind
def VE(g:P.follows .mixedOrders=true){I:Array Bool->Act->(Nat->Prop)->aH->Nat->(Loc->Prop)->Prop}(cR:∀aq a M w n Shun k,I aq a M w n Shun->I aq a M (w.at k) n Shun)(hstep:∀aq a M w n Shun i o rest,I aq a M w n Shun->aq.getD i true=false->ops[i]?=some o->(∀e∈o.after,Region.binds .any e=true->aq.getD e.on false=true)->(∀a' M' w' b d,I (aq.setIfInBounds i true) a' M' w' b d->bK P Post b d 0 (a0 ((base f).at a' (.inRegion ops rest::k)) cs) w')->bK P Post n Shun 0 (a0 ((base f).at a (.inRegion ops (i::rest)::k)) cs) w)(h:∀aq a M w n Shun,I aq a M w n Shun->Region.ready .any ops aq=[]->bK P Post n Shun 0 (a0 ((base f).at a (.inRegion ops []::k)) cs) w){id:Nat}(h0:I (Array.replicate ops.size false) a M w n Shun):bK P Post n Shun 0 (a0 ((base f).at a (.code (.region id ops true)::k)) cs) w:=by
 have key:∀(m t:Nat)(aq:uar)(a:Act)(M:dY)(w:aH)(n:Nat)(Shun:uai),aq.toList.count false<=m->I aq a M w n Shun->bK P Post n Shun 0 (a0 ((base f).at a (.inRegion ops (Region.linearise.go .any ops m t aq [])::k)) cs) w:=by
  intro m;induction m with
  |zero=>intro t aq a M w n Shun l c;refine h aq a M w n Shun c ?_;cases j:Region.ready .any ops aq with|nil=>rfl|cons x xs=>have r:x∈Region.ready .any ops aq:=AJ;grind[count_set,mem_ready]
  |succ m q=>
   intro t aq a M w n Shun l c;simp only[Region.linearise.go];change bK P Post n Shun 0 (a0 ((base f).at a (.inRegion ops (match(Region.ready .any ops aq)[t % (Region.ready .any ops aq).length]? with
    |some i=>Region.linearise.go .any ops m (t / (Region.ready .any ops aq).length) (aq.setIfInBounds i true) [i]
    |none=>[].reverse)::k)) cs) w
   cases hi:(Region.ready .any ops aq)[t % (Region.ready .any ops aq).length]? with
   |none=>
    have p:Region.ready .any ops aq=[]:=by cases j:Region.ready .any ops aq with|nil=>rfl|cons x xs=>grind[Nat.mod_lt]
    grind
   |some i=>simp only[];rw[linearise_go_acc,List.reverse_singleton,List.singleton_append];obtain⟨v,o,u,s⟩:=mem_ready.1 (vcb hi);grind[count_set]
 refine vU (en.mk Y λk'=>⟨_,_,_,stepG_region_draw,AQ,vad _,.stop λk''=>?_⟩);simp only[Region.schedule,g,Bool.true_or,vbr];exact key ops.size _ _ a M _ n Shun AQ (AJ:I _ a M (w.at k'') n Shun)
end
end
variable{c x y:Code}
section
variable{O:fk}
def kE(R:uag)(e:Exit)(a:Act)(w:aH):Prop:=e=.normal/\R a w
section
variable{P:cf}
def KU{ops:fC}{R:uag}(l2:uad)(l:uad):∀(a:Act)(w:aH),wpOps P ops (kE R) l a w->∀(b:Frame)(k:uaa)(cs:fG),
 ∃a' w',R a' w'/\Steps P (lone (b.at a (.inRegion ops (l++l2)::k)) cs w) (lone (b.at a' (.inRegion ops l2::k)) cs w'):=by
 induction l with
 |nil=>exact λa w h b k cs=>⟨a,w,h.2,.refl _ _⟩
 |cons i rest j=>
  intro a w h b k cs;simp[wpOps]at h;simp;cases m:ops[i]? with
  |none=>simp[m]at h;obtain⟨a',w',hq,c⟩:=j a w h b k cs;have hs:=step_op_skip (P:=P) (b:=b) (a:=a) (k:=k) (cs:=cs) (w:=w) (ops:=ops) (i:=i) (rest:=rest++l2) AJ;simp[m,Act.put]at hs;exact⟨a',w',hq,.head hs c⟩
  |some o=>
   simp[m]at h;by_cases s:veg o ops a.tmps=true
   .simp[s]at h;rcases h with h|⟨y,r,n,hq⟩
    case inr=>cases hq.1
    simp[Oper.wp,Oper.upon]at h;have hg:=stepG_op (P:=P) (b:=b) (k:=k) (cs:=cs) (w:=w) (rest:=rest++l2) m s;have z:∀v,(b.at a (.inRegion ops (i::(rest++l2))::k)).finish v=b.at (a.put o.dst v) (.inRegion ops (rest++l2)::k):=by grind[Frame.finish_at]
    split at h
    .rename_i v w' p;obtain⟨a',w'',hq,c⟩:=j _ _ h b k cs;refine⟨a',w'',hq,.head (step_lone_go ?_) c⟩;simp_all[stepG.apply]
    .rename_i w' p;obtain⟨a',w'',hq,c⟩:=j _ _ h b k cs;refine⟨a',w'',hq,.head (step_lone_go ?_) c⟩;simp_all[stepG.apply]
    .rename_i d w' p;obtain⟨a',w'',hq,c⟩:=j _ _ h b k cs;refine⟨a',w'',hq,.head (step_lone_go ?_) c⟩;have:({b.at a (.inRegion ops (i::(rest++l2))::k)with defers:=d::a.defers}:Frame).finish undef=
      b.at ({a with defers:=d::a.defers}.put o.dst undef) (.inRegion ops (rest++l2)::k):=by
      have:=vcj b {a with defers:=d::a.defers} ops i (rest++l2) k undef;rw[m]at this;exact this
     rw[hg];simp only[stepG.apply,vas,p,GStep.bare_after];exact vbp (λfr=>GStep.go {frame:=fr,callers:=cs,status:=.running,dying:=none} w') this
    .rename_i f args w' p;obtain⟨e,w'',fr,q,u,_,x⟩:=h (b.at a (.inRegion ops (i::(rest++l2))::k)::cs);have t:step P (lone (b.at a (.inRegion ops (i::(rest++l2))::k)) cs w)=
      .next (lone (Frame.enter P f args .normal) (b.at a (.inRegion ops (i::(rest++l2))::k)::cs) w'):=
      step_lone_go (by simp_all[stepG.apply,Frame.at])
     cases e with
     |returned v=>obtain⟨a',g,hq,c⟩:=j _ _ q b k cs;refine⟨a',g,hq,.head t (Steps.trans u (.head ?_ c))⟩;grind[step_leave_returned]
     |panicked chain=>cases q.1
     |outgrown=>obtain⟨r,n,hq⟩:=q;cases hq.1
    .rename_i row args w' p;obtain⟨v,w'',q,u⟩:=h (b.at a (.inRegion ops (i::(rest++l2))::k)) cs;have t:step P (lone (b.at a (.inRegion ops (i::(rest++l2))::k)) cs w)=
      .next (lone (Frame.ofRow P row args .normal) (b.at a (.inRegion ops (i::(rest++l2))::k)::cs) w'):=
      step_lone_go (by simp_all[stepG.apply,Frame.at])
     obtain⟨a',g,hq,c⟩:=j _ _ q b k cs;refine⟨a',g,hq,.head t (Steps.trans ?_ c)⟩;grind
    .cases h.1
    grind
   .simp[s]at h;obtain⟨a',w',hq,c⟩:=j _ _ h b k cs;have hs:=step_op_skip (P:=P) (b:=b) (a:=a) (k:=k) (cs:=cs) (w:=w) (ops:=ops) (i:=i) (rest:=rest++l2)
     AJ
    simp[m]at hs;exact⟨a',w',hq,.head hs c⟩
def b8(P:cf)(ks ks':uaa)(Q:uag)(a:Act)(w:aH):Prop:=
 ∀(b:Frame)(cs:fG),∃a1 w1,Q a1 w1/\Steps P (lone (b.at a ks) cs w) (lone (b.at a1 ks') cs w1)
variable{ks ks':uaa}{Q:uag}{a:Act}{w:aH}
def jS(h:Q a w):b8 P ks ks Q a w:=λ_ _=>⟨a,w,h,.refl _ _⟩
def xU{Hg:uaa}{w1:aH}(hs:∀(b:Frame)(cs:fG),step P (lone (b.at a ks) cs w)=.next (lone (b.at a Hg) cs w1))(h:b8 P Hg ks' Q a w1):b8 P ks ks' Q a w:=λb cs=>by obtain⟨a1,w2,d,c⟩:=h b cs;exact⟨a1,w2,d,.head (hs b cs) c⟩
def cg(h:b8 P (.code x:: .code y::ks) ks' Q a w):b8 P (.code (.seq x y)::ks) ks' Q a w:=xU (λ_ _=>step_seq) h
def wG{id:Nat}(h:b8 P (.code c:: .inBlock id::ks) ks' Q a w):b8 P (.code (.block id c)::ks) ks' Q a w:=xU (λ_ _=>step_block) h
def KV{id:Nat}(h:b8 P ks ks' Q a w):b8 P (.inBlock id::ks) ks' Q a w:=xU (λ_ _=>step_inBlock) h
def VG(h:b8 P (.code c:: .inLoop c::ks) ks' Q a w):b8 P (.code (.loop c)::ks) ks' Q a w:=xU (λ_ _=>step_loop) h
def VH(h:b8 P (.code c:: .inLoop c::ks) ks' Q a w):b8 P (.inLoop c::ks) ks' Q a w:=xU (λ_ _=>step_inLoop) h
def lv{c:uau}{t:Bool}(ht:a.eval c=.bool t)(h:b8 P (.code (if t then x else y)::ks) ks' Q a w):b8 P (.code (.cond c x y)::ks) ks' Q a w:=xU (λb cs=>by rw[step_cond ht]) h
def uL(h:b8 P ks ks' Q a w):b8 P (.code .skip::ks) ks' Q a w:=xU (λ_ _=>step_skip) h
def VI{id:Nat}{Hg:uaa}(b:exitTo id ks=some Hg)(h:b8 P Hg ks' Q a w):b8 P (.code (.exit id)::ks) ks' Q a w:=xU (λ_ _=>step_exit b) h
def uM{id:Nat}{ops:fC}(h:b8 P (.inRegion ops (List.range' 0 ops.size)::ks) ks' Q a w):b8 P (.code (.region id ops false)::ks) ks' Q a w:=xU (λb cs=>by rw[step_region,List.range_eq_range']) h
def tv{ops:fC}(h:b8 P ks ks' Q a w):b8 P (.inRegion ops []::ks) ks' Q a w:=xU (λ_ _=>step_region_end) h
def Bv(h:c.wp P (kE (b8 P ks ks' Q)) a w):b8 P (.code c::ks) ks' Q a w:=λb cs=>by obtain⟨e,a1,w1,⟨rfl,hq⟩,d⟩:=h b ks cs;obtain⟨i,w2,g,f⟩:=hq b cs;exact⟨i,w2,g,Steps.trans d f⟩
def auv{ops:fC}{Q:ual}(l:ubi):∀k,(∀j(h:j<l.length),ops[k+j]?=some l[j])->wpOps P ops Q (List.range' k l.length)=wpList P ops Q l:=by induction l with|nil=>grind[wpOps,wpList]|cons o l a=>intro k h;have h0:ops[k]?=some o:=h 0 AQ;have ih':=a (k+1) (λj b=>by have:=h (j+1) AJ;grind);simp_all[vdk,wpOps,wpList]
def KW{ops:fC}(m:Nat){k len:Nat}(f:m<=len)(g:k+len<=ops.size)(h:wpList P ops (kE (b8 P (.inRegion ops (List.range' (k+m) (len-m))::ks) ks' Q)) ((ops.toList.drop k).take m) a w):b8 P (.inRegion ops (List.range' k len)::ks) ks' Q a w:=λb cs=>by
 have hlen:((ops.toList.drop k).take m).length=m:=AJ;have c:wpOps P ops (kE (b8 P (.inRegion ops (List.range' (k+m) (len-m))::ks) ks' Q)) (List.range' k m) a w:=by
  have:=auv (P:=P) (ops:=ops) (Q:=kE (b8 P (.inRegion ops (List.range' (k+m) (len-m))::ks) ks' Q)) ((ops.toList.drop k).take m) k (λj i=>by
   grind)
  simp_all
 have d:List.range' k len=List.range' k m++List.range' (k+m) (len-m):=by simp_all
 obtain⟨a1,w1,e,o⟩:=KU (List.range' (k+m) (len-m)) (List.range' k m) a w c b ks cs;obtain⟨p,w2,n,l⟩:=e b cs;grind[Steps.trans]
def qr(P:cf)(fn:Func)(ks:uaa)(hO:fX)(a:Act)(w:aH):Prop:=
 ∀(f:uah)(cs:fG),P.funcs[f]?=some fn->∃v w1 fr,hO v w1/\Steps P (lone ((base f).at a ks) cs w) (lone fr cs w1)/\fr.leaving P w1 (.returned v)
def xV{fn:Func}{hO:fX}(h:b8 P ks ks' (qr P fn ks' hO) a w):qr P fn ks hO a w:=λf cs b=>by obtain⟨a1,w1,c,i⟩:=h (base f) cs;obtain⟨v,w2,fr,g,e,d⟩:=c f cs b;grind[Steps.trans]
def Hh{fn:Func}{hO:fX}{v:Value}(hd:a.defers=[])(b:(results fn a.tmps).run P w=.ok v w)(h:hO v w):qr P fn (.code .ret::ks) hO a w:=λf cs c=>
 ⟨v,w,_,h,.one step_ret,Y,hd,Y,fn,c,b⟩
def auw{fn:Func}{hO:fX}(h:c.wp P (bodyPost P fn λe w=>∃v,e=.returned v/\hO v w) a w):qr P fn [.code c] hO a w:=λf cs i=>by
 obtain⟨e,a1,w1,hq,g⟩:=h (base f) [] cs;cases e with
 |normal=>obtain⟨hd,v,b,u,e,d⟩:=hq;cases e;exact⟨v,w1,_,d,Steps.trans g (.one step_end),Y,hd,Y,fn,i,b⟩
 |ret=>obtain⟨hd,v,b,u,e,d⟩:=hq;cases e;obtain⟨todo,hs⟩:=g;exact⟨v,w1,_,d,hs,Y,hd,Y,fn,i,b⟩
 |panic chain=>obtain⟨_,u,e,_⟩:=hq;cases e
 |exit id=>exact hq.elim
 |goto l=>exact hq.elim
 |outgrown=>obtain⟨u,e,_⟩:=hq;cases e
end
section
variable{P:cf}{Post:fX}{n:Nat}{Shun:uai}{M:dY}{w:aH}{f:uah}{a:Act}{k k':uaa}{cs:fG}
def ze(g:(c0 P).Good)(j:Home O P M Shun w)(d:ln P f)(e:aM (bG M) a.tmps a.tmps)(hd:a.defers=[])(hk:k.all (gL P)=true)(i:k'.all (gL P)=true){Q:aH->Act->aH->Prop}(hrun:∀c,gm (c0 P) M (hY M) w c->∀T,b8 (ae P true) k k' (λa1 w1=>a1.defers=[]/\Q c a1 w1) a {c with tape:=T})(h:∀ρ c a1 w1 a' w',gm (c0 P) M (hY M) w c->Q c a1 w1->aM ρ a1.tmps a'.tmps->a'.defers=[]->Behind O P M Shun w ρ w1 w'->bK P Post n Shun 0 (a0 ((base f).at a' k') cs) w'):
 bK P Post n Shun 0 (a0 ((base f).at a k) cs) w:=
 wp_move g j d e hd hk i (λc l T b cs=>by
  obtain⟨a1,w1,⟨p,o⟩,m⟩:=hrun c l T b cs;grind) h
def aux(e:(c0 P).Good)(t:Home O P M Shun w){fn:Func}(j:P.funcs[f]?=some fn)(i:gz P true fn=true)(m:fn.body=some gK)(o:aM (bG M) a.tmps a.tmps)(hd:a.defers=[])(hk:k.all (gL P)=true){d:uah}{aD:Act}{aB:fC}{aJ:Nat}{aL:uad}{aG:uaa}{csZ:fG}(l:xN P M d aD aB aJ aG){hO:ubq}(hrun:∀b,gm (c0 P) M (hY M) w b->∀T,qr (ae P true) fn k (hO b) a {b with tape:=T})(s:∀ρ b v g u w',gm (c0 P) M (hY M) w b->hO b v g->ax ρ v u->Behind O P M Shun w ρ g w'->bK P Post n Shun 0 (a0 ((base d).at (aD.put ((aB[aJ]?).bind (·.dst)) u) (.inRegion aB aL::aG)) csZ) w'):
 bK P Post n Shun 0 (a0 ((base f).at a k) ((base d).at aD (.inRegion aB (aJ::aL)::aG)::csZ)) w:=by
 have h:(ae P true).funcs[f]?=some fn:=a5 j i;refine aqX e t (Kh e ⟨fn,gK,h,m⟩ o hd hk) l (hO:=hO) (λb x T c cs=>?_) s;obtain⟨v,w1,fr,r,q,p⟩:=hrun b x T f (c::cs) h;exact⟨v,w1,r,Steps.trans q (.one (step_leave_returned p))⟩
def EP{fn:Func}(b:P.funcs[f]?=some fn)(a:gz P true fn=true)(c:fn.body=some gK):ln P f:=⟨fn,gK,a5 b a,c⟩
end
end
section
variable{O:fk}
def y_(G:ube):Prop:=∀v M w M' w',Carry (bG M) w w'->ax (bG M) v v->(∀b,M b->M' b)->cP M w w'->G v M w->G v M' w'
structure tw(O:fk)(P:cf)(bs:uac)(dd:uas)(m N:Nat)(G:uae)(dH:Nat)(aT:dY)(w0:aH)(g n0 uN:Nat)(aq:uar)(a:Act)(M:dY)(w:aH)(n:Nat)(Shun:uai):Prop where
 gq:Home O P M Shun w
 len:aq.size=dH
 size:a.tmps.size=N
 defers:a.defers=[]
 all:aM (bG M) a.tmps a.tmps
 sub:∀b,aT b->M b
 keep:cP aT w0 w
 since:oM w0 w
 base:∀p∈bs,a.tmps[p.1]?=some p.2
 facts:∀j,j<m->aq.getD j false=true->∃v,a.tmps[dd j]?=some v/\G j v M w
 most:n<=uN/\(aq.getD g false=false->n<=n0)
section
variable{P:cf}{bs:uac}{dd:uas}{m N dH:Nat}{G:uae}{aT:dY}{w0:aH}{g n0 uN:Nat}{aq:uar}{a:Act}{M:dY}{w:aH}{n:Nat}{Shun:uai}
def tw.start{Shun:uai}(d:Home O P aT Shun w0)(hs:a.tmps.size=N)(hd:a.defers=[])(c:aM (bG aT) a.tmps a.tmps)(b:∀p∈bs,a.tmps[p.1]?=some p.2)(hn:n<=uN/\n<=n0):tw O P bs dd m N G dH aT w0 g n0 uN (Array.replicate dH false) a aT w0 n Shun:=
 ⟨d,AQ,hs,hd,c,λ_ h=>h,cP.refl _ _,oM.refl _,b,λj _ h=>by
  simp_all[Array.getD],hn.1,λ_=>hn.2⟩
theorem tw.at(f:∀j v M w k,G j v M w->G j v M (w.at k))(k:Nat)(h:tw O P bs dd m N G dH aT w0 g n0 uN aq a M w n Shun):tw O P bs dd m N G dH aT w0 g n0 uN aq a M (w.at k) n Shun:=
 ⟨(h.gq.at _),h.len,h.size,h.defers,h.all,h.sub,h.keep,⟨h.since.size,h.since.later,h.since.output,h.since.tape⟩,h.base,λj c b=>by
  obtain⟨v,e,d⟩:=h.facts j c b;grind,h.most⟩
theorem tw.eval(h:tw O P bs dd m N G dH aT w0 g n0 uN aq a M w n Shun){t:Nat}{v:Value}(b:(t,v)∈bs):a.eval (.tmp t)=v:=by have:=h.base _ b;simp[Act.eval,this]
theorem sq{aq:uar}{i j:Nat}(hi:i<aq.size):(aq.setIfInBounds i true).getD j false=true↔j=i\/aq.getD j false=true:=by
 rcases vcf j aq.size with x|x
 .simp only[Array.getD,vdb,x,dif_pos,Array.getInternal_eq_getElem,Array.getElem_setIfInBounds];grind
 grind
theorem tw.step(h:tw O P bs dd m N G dH aT w0 g n0 uN aq a M w n Shun){j:Nat}{u:Value}{M':dY}{w':aH}{c:Nat}{o:uai}(t:j<m/\j<dH/\dd j<N)(D:∀p∈bs,dd j≠p.1)(x:∀i,i<m->i≠j->dd j≠dd i)(z:∀i,i<m->y_ (G i))(B:Home O P M' o w')(d:∀b,M b->M' b)(hk:cP M w w')(hs:oM w w')(s:ax (bG M') u u)(C:G j u M' w')(hn:c<=uN/\(j≠g->c<=n)):tw O P bs dd m N G dH aT w0 g n0 uN (aq.setIfInBounds j true) (a.put (some (dd j)) u) M' w' c o:=by
 have A:aM (bG M') a.tmps a.tmps:=h.all.mono (xO d);refine⟨B,by simp[h.len],Is,Iq,?_,λb y=>d b (h.sub b y),h.keep.trans h.sub hk,h.since.trans hs,λp k=>?_,λi hi l=>?_,hn.1,λl=>?_⟩
 .exact A.set s _
 .have:=h.base p k;simp[Act.put,D p k];grind
 .by_cases e:i=j
  .subst e;exact⟨u,by simp[Act.put,h.size,t.2.2],C⟩
  .have q:aq.getD i false=true:=((sq G9).1 l).resolve_left e;obtain⟨v,f,r⟩:=h.facts i hi q;refine⟨v,?_,z i hi v M w M' w' (hk.carry h.gq) ?_ d hk r⟩
   .simp_all[Act.put]
   .exact h.all.get _ _ _ f f
 .by_cases e:j=g
  .have:=(sq (aq:=aq) (i:=j) (j:=g) G9).2 (.inl e.symm);grind
  .refine vac (hn.2 e) (h.most.2 ?_);simp_all
theorem xW{o:Oper}(h:o.guard=none)(y:Nat->Option Bool):Region.wanted o y=true:=by grind[Region.wanted]
variable{Post:fX}{f:uah}{ops:fC}{rest:uad}{k:uaa}{cs:fG}{o:Oper}{j:Nat}
def tw.val(y:(c0 P).Good)(x:ln P f)(hk:(Item.inRegion ops []::k).all (gL P)=true)(hd:∀i,i<m->i<dH/\dd i<N/\(∀p∈bs,dd i≠p.1)/\∀c,c<m->c≠i->dd i≠dd c)(q:∀i,i<m->y_ (G i))(h:tw O P bs dd m N G dH aT w0 g n0 uN aq a M w n Shun)(u:ops[j]?=some o)(d:j<m)(t:o.dst=some (dd j))(z:o.guard=none)(v:Value)(hv:ax (bG M) v v)(hrun:∀e,gm (c0 P) M (hY M) w e->∀T,(execOp a.eval o).run (ae P true) {e with tape:=T}=.ok (.value v) {e with tape:=T})(D:G j v M w)(K:∀a' M' w' l s,tw O P bs dd m N G dH aT w0 g n0 uN (aq.setIfInBounds j true) a' M' w' l s->bK P Post l s 0 (a0 ((Conc.base f).at a' (.inRegion ops rest::k)) cs) w'):
 bK P Post n Shun 0 (a0 ((Conc.base f).at a (.inRegion ops (j::rest)::k)) cs) w:=by
 obtain⟨d1,r,B,A⟩:=hd j d;refine aut y h.gq x h.all h.defers hk u (xW z _) ⟨t,by rw[h.size];exact r⟩ hv hrun λM' w' hs C E b F=>?_;exact K _ M' w' n Shun (h.step ⟨d,d1,r⟩ B A q C hs b E (hv.mono (xO hs)) (q j d v M w M' w' (b.carry h.gq) hv hs b D) ⟨h.most.1,AJ⟩)
def O0{ops:fC}(c:(List.range ops.size).all (λj=>match ops[j]? with|some o=>o.after.all λe=> !Region.binds .any e||decide (e.on<j)|none=>true)=true)(h:aq.size=ops.size)(f:Region.ready .any ops aq=[]):∀j,j<ops.size->aq.getD j false=true:=by
 intro j;induction j using Nat.strongRecOn with
 | _ j d=>
  intro a;apply vap;intro hn;have g:j∈Region.ready .any ops aq:=by
   refine mem_ready.2 ⟨?_,ops[j],AJ,λe b i=>?_⟩
   .grind
   .have:=List.all_eq_true.1 c j AJ;simp only[vax a]at this;have:=vao.1 this e b;grind
  grind
end
end
section
open RowKit
variable{O:fk}
structure rA(n0:Nat)(ρ:Ren)(w w':aH):Prop where
 cells:Carry ρ w w'
 types:∀a b c e z,ρ.rel a b->w.heap[a]?=some (.cells c e z)->∃c',w'.heap[b]?=some (.cells c' e z)/\c'.size=c.size
 new:∀a b,ρ.rel a b->n0<=a->n0<=b
 inj:∀a a' b,ρ.rel a b->ρ.rel a' b->a=a'
def kf(n0:Nat)(R:uay):Prop:=∀ρ w w' v v',rA n0 ρ w w'->ax ρ v v'->R w v->R w' v'
def qx(n0:Nat)(I:uag):Prop:=∀ρ a a' w w',rA n0 ρ w w'->aM ρ a.tmps a'.tmps->I a w->I a' w'
def pz(N:Nat)(fs:List (Nat×(aH->Value->Prop)))(a:Act)(w:aH):Prop:=a.tmps.size=N/\∀p∈fs,∃v,a.tmps[p.1]?=some v/\p.2 w v
def z_{n0 N:Nat}{fs:List (Nat×(aH->Value->Prop))}(h:∀p∈fs,kf n0 p.2):qx n0 (pz N fs):=by rintro ρ a a' w w' f c ⟨hs,e⟩;refine⟨by rw[<-c.size];exact hs,λp b=>?_⟩;obtain⟨v,k,j⟩:=e p b;obtain⟨d,i,g⟩:=c.some k;exact⟨d,i,h p b _ _ _ _ _ f g j⟩
section
variable{P:cf}{Post:fX}{n:Nat}{Shun:uai}{M:dY}{w:aH}
def Behind.mL{n0:Nat}{ρ:Ren}{g w':aH}(h:Behind O P M Shun w ρ g w')(hn:n0<=w.heap.size):rA n0 ρ g w':=by
 refine⟨h.carry,λa b c e z r k=>?_,λa b r q=>?_,(by obtain⟨S,d⟩:=h.rel;exact d.inj)⟩
 .obtain⟨S,d⟩:=h.rel;obtain⟨o,o',f,j,i⟩:=d.obj a b r;rw[k]at f;cases f;cases i with|@cells _ s _ _ p m l=>have n:p=z:=l.2 Y;subst n;exact⟨_,j,m.size.symm⟩
 .rcases h.old a b r with⟨e,-⟩|h
  .grind
  .omega
def Home.mL{n0:Nat}(d:Home O P M Shun w){f:aH}(g:gm (c0 P) M (hY M) w f)(T:Nat->Question->Nat):rA n0 (bG M) w {f with tape:=T}:=by refine⟨λa a' v r h=>g.carry d.cl a a' v r h,λa b c e z r j=>?_,λa b r l=>r.1▸l,λa a' b r i=>r.1.trans i.1.symm⟩;obtain⟨rfl,k⟩:=r;obtain⟨m,n,o⟩:=g.cells d.cl k j;grind
def cP.mL{n0:Nat}{w':aH}(h:cP M w w')(j:Home O P M Shun w):rA n0 (bG M) w w':=by refine⟨h.carry j,λa b c e z r f=>?_,λa b r i=>r.1▸i,λa a' b r d=>r.1.trans d.1.symm⟩;obtain⟨rfl,g⟩:=r;exact⟨_,h _ _ _ _ g f,Y⟩
def Behind.auM{ρ:Ren}{n l w':aH}(h:Behind O P M Shun w ρ l w')(m:Home O P M Shun w)(C:gm (c0 P) M (hY M) w n){N:dY}(a3:∀b,N b->M b)(hk:∀b c e z,N b->n.heap[b]?=some (.cells c e z)->l.heap[b]?=some (.cells c e z)):cP N w w':=by
 intro b c e fr a i;obtain⟨q,u,A⟩:=C.cells m.cl (a3 b a) i;have x:=A (a3 b a);subst x;have y:=hk b c e _ a u;obtain⟨S,j⟩:=h.rel;obtain⟨o,o',g,f,r⟩:=j.obj b b (h.le.1 b b ⟨Y,a3 b a⟩);rw[y]at g;cases g;cases r with
 |@cells _ E _ _ B t s=>
  have v:B=q:=s.2 Y;subst v;obtain⟨D,k,d⟩:=m.cl b (a3 b a);rw[i]at k;cases k;rcases d with d|d
  .cases d with|cells _ p _=>rw[VD j.one t (p.mono h.le)]at f;exact f
  .exact d.elim
variable{f:uah}{a:Act}{k k':uaa}{cs:fG}{n0:Nat}
structure Held(O:fk)(P:cf)(aT:dY)(w0:aH)(n0:Nat)(a:Act)(M:dY)(w:aH)(Shun:uai):Prop where
 gq:Home O P M Shun w
 sub:∀b,aT b->M b
 since:oM w0 w
 keep:cP (λb=>aT b/\b<n0) w0 w
 all:aM (bG M) a.tmps a.tmps
 defers:a.defers=[]
 size:n0<=w.heap.size
def Held.start(c:Home O P M Shun w)(hn:n0<=w.heap.size)(b:aM (bG M) a.tmps a.tmps)(hd:a.defers=[]):Held O P M w n0 a M w Shun:=⟨c,λ_ h=>h,.refl _,.refl _ _,b,hd,hn⟩
variable{aT:dY}{w0:aH}
theorem Held.at(h:Held O P aT w0 n0 a M w Shun)(k:Nat):Held O P aT w0 n0 a M (w.at k) Shun:=
 ⟨(h.gq.at _),h.sub,⟨h.since.size,h.since.later,h.since.output,h.since.tape⟩,h.keep,h.all,h.defers,h.size⟩
def Held.next(h:Held O P aT w0 n0 a M w Shun){ρ:Ren}{f e w':aH}{T:Nat->Question->Nat}(j:gm (c0 P) M (hY M) w f)(d:Behind O P M Shun w ρ e w')(c:Below n0 {f with tape:=T} e){a':Act}(i:aM (bG (qk ρ)) a'.tmps a'.tmps)(hd:a'.defers=[]):Held O P aT w0 n0 a' (qk ρ) w' Shun:=
 ⟨d.gq,λb c=>d.mem (h.sub b c),h.since.trans d.since,h.keep.trans (M':=λb=>M b/\b<n0) (λb c=>⟨h.sub b c.1,c.2⟩) (d.auM h.gq j AJ λb _ _ _ hn g=>(c.block b hn.2).trans g),i,hd,vac h.size d.since.size⟩
def O2(o:(c0 P).Good)(l:ln P f)(H:Held O P aT w0 n0 a M w Shun)(hk:k.all (gL P)=true)(r:k'.all (gL P)=true){I J:uag}(m:qx n0 I)(p:qx n0 J)(h0:I a w)(hrun:∀W,n0<=W.heap.size->I a W->b8 (ae P true) k k' (λa1 w1=>a1.defers=[]/\J a1 w1/\Below n0 W w1) a W)(q:∀a' M' w',Held O P aT w0 n0 a' M' w' Shun->J a' w'->bK P Post n Shun 0 (a0 ((base f).at a' k') cs) w'):
 bK P Post n Shun 0 (a0 ((base f).at a k) cs) w:=by
 refine ze o H.gq l H.all H.defers hk r (Q:=λc a1 w1=>J a1 w1/\∃T,Below n0 {c with tape:=T} w1) (λc d T b cs=>?_) ?_
 .obtain⟨a1,w1,⟨j,i,g⟩,h⟩:=hrun {c with tape:=T} (by show n0<=c.heap.size;rw[d.size];exact H.size) (m _ _ _ _ _ (H.gq.mL d T) H.all h0) b cs;grind
 .rintro ρ c a1 w1 a' w' d ⟨j,T,i⟩ g h e;exact q a' (qk ρ) w' (H.next d e i (e.all g) h) (p _ _ _ _ _ (e.mL H.size) g j)
def KY(s:(c0 P).Good){fn:Func}(o:P.funcs[f]?=some fn)(m:gz P true fn=true)(q:fn.body=some gK)(H:Held O P aT w0 n0 a M w Shun)(hk:k.all (gL P)=true){i:uah}{aD:Act}{aB:fC}{aJ:Nat}{aL:uad}{aG:uaa}{csZ:fG}(p:xN P aT i aD aB aJ aG){I:uag}{hO:uay}(r:qx n0 I)(x:kf n0 hO)(h0:I a w)(hrun:∀W,n0<=W.heap.size->I a W->qr (ae P true) fn k (λv w1=>hO w1 v/\Below n0 W w1) a W)(t:∀u M' w',Home O P M' Shun w'->(∀b,aT b->M' b)->ax (bG M') u u->oM w0 w'->cP (λb=>aT b/\b<n0) w0 w'->hO w' u->bK P Post n Shun 0 (a0 ((base i).at (aD.put ((aB[aJ]?).bind (·.dst)) u) (.inRegion aB aL::aG)) csZ) w'):
 bK P Post n Shun 0 (a0 ((base f).at a k) ((base i).at aD (.inRegion aB (aJ::aL)::aG)::csZ)) w:=by
 refine aux s H.gq o m q H.all H.defers hk (p.mono H.sub) (hO:=λc v w1=>hO w1 v/\∃T,Below n0 {c with tape:=T} w1) (λc e T f cs y=>?_) ?_
 .obtain⟨v,w1,fr,⟨l,j⟩,h,z⟩:=hrun {c with tape:=T} KC (r _ _ _ _ _ (H.gq.mL e T) H.all h0) f cs y;grind
 .rintro ρ c v A u w' e ⟨l,T,j⟩ h g;have d:=H.next e g j (a':=⟨#[],[]⟩) ⟨Y,AJ⟩ Y;exact t u (qk ρ) w' d.gq d.sub (g.val h) d.since d.keep (x _ _ _ _ _ (g.mL H.size) h l)
variable{ops:fC}{i:Nat}{rest:uad}{o:Oper}
def VM{d:Nat}{g:uah}{args:uaw}{ats:uap}(j:o.op=.call {callee:=.value (.func g),args,argTypes:=ats})(hg:P.funcs[g]?=some dT)(r:(dT.name== "runtime.NumGoroutine")=false)(c:dT.body=some gK)(hn:n+16*d<=200)(v:ln P f)(H:Held O P aT w0 n0 a M w Shun)(hk:(Item.inRegion ops []::k).all (gL P)=true)(t:ops[i]?=some o)(C:o.guard=none){l:Tmp}(s:o.dst=some l/\l<a.tmps.size){I J:uag}{oa:uay}(x:qx n0 I)(h0:I a w)(y:∀k,ei O P Post g (args.map a.eval) M (w.at k) d (λu _ w'=>oa w' u/\cP M w w'))(D:∀u w',I a w'->oa w' u->J (a.put (some l) u) w')(E:∀a' M' w' e h,e<=n+16*d->Held O P aT w0 n0 a' M' w' h->J a' w'->bK P Post e h 0 (a0 ((base f).at a' (.inRegion ops rest::k)) cs) w'):
 bK P Post n Shun 0 (a0 ((base f).at a (.inRegion ops (i::rest)::k)) cs) w:=by
 simp only[vbk,vah]at hk;refine zg j hg r c Y hn H.gq ⟨v,.inl H.all,H.defers,hk.1,hk.2,AJ⟩ t (xW C _) y ?_;rintro u M' w' e h B A p z q ⟨F,m⟩;rw[s.1];refine E _ M' w' e h B ⟨A,λb c=>p b (H.sub b c),H.since.trans q,H.keep.trans (λb c=>H.sub b c.1) m,?_,Ir,vac H.size q.size⟩ (D u w' (x _ _ _ _ _ (m.mL H.gq) H.all h0) F);exact(H.all.mono (xO p)).set z _
def auN(Q:(c0 P).Good)(C:P.follows .mixedOrders=true)(y:ln P f)(hk:(Item.inRegion ops []::k).all (gL P)=true)(g:Nat){j:Oper}{d:Nat}{gf:uah}{args:uaw}{ats:uap}(t:ops[g]?=some j)(p:j.op=.call {callee:=.value (.func gf),args,argTypes:=ats})(U:P.funcs[gf]?=some dT)(E:(dT.name== "runtime.NumGoroutine")=false)(L:dT.body=some gK)(S:j.guard=none)(hn:n+16*d<=200){I:ubp}(l:∀aq,qx n0 (I aq)){r:Tmp}(Y:j.dst=some r)(O3:∀aq a w,I aq a w->r<a.tmps.size){oa:uay}(hsz:∀aq a w,I aq a w->aq.size=ops.size)(H:Held O P aT w0 n0 a M w Shun)(h0:I (Array.replicate ops.size false) a w)(hstep:∀aq a W i o,I aq a W->a.defers=[]->n0<=W.heap.size->i≠g->aq.getD i true=false->ops[i]?=some o->(∀e∈o.after,Region.binds .any e=true->aq.getD e.on false=true)->wpOps (ae P true) ops (kE λa1 w1=>a1.defers=[]/\I (aq.setIfInBounds i true) a1 w1/\Below n0 W w1) [i] a W)(R:∀aq a M w Shun,Held O P aT w0 n0 a M w Shun->I aq a w->aq.getD g false=false->(∀e∈j.after,Region.binds .any e=true->aq.getD e.on false=true)->ei O P Post gf (args.map a.eval) M w d (λu _ w'=>oa w' u/\cP M w w'))(F:∀aq a w u,I aq a w->aq.getD g false=false->(∀e∈j.after,Region.binds .any e=true->aq.getD e.on false=true)->oa w u->I (aq.setIfInBounds g true) (a.put (some r) u) w)(Z:∀aq a M' w' c B,I aq a w'->Region.ready .any ops aq=[]->c<=n+16*d->Held O P aT w0 n0 a M' w' B->bK P Post c B 0 (a0 ((base f).at a (.inRegion ops []::k)) cs) w'){id:Nat}:bK P Post n Shun 0 (a0 ((base f).at a (.code (.region id ops true)::k)) cs) w:=by
 have bX:∀aq a M w Shun k,Held O P aT w0 n0 a M w Shun->I aq a w->I aq a (w.at k):=λaq a M w Shun k H h=>l aq _ _ _ _ _ ((show cP M w (w.at k)from λ_ _ _ _ _ x=>x).mL H.gq) H.all h;refine VE C (I:=λaq a M w c Shun=>Held O P aT w0 n0 a M w Shun/\I aq a w/\c<=n+16*d/\(aq.getD g false=false->c<=n)) (λaq a M w c Shun k h=>⟨h.1.at k,AJ,h.2.2⟩) ?_ AJ ⟨H,h0,vdj _ _,λ_=>vad _⟩;intro aq a M w c Shun i o rest ⟨H,hi,V,X⟩ D q m K;have Jn:i<aq.size:=by grind
 by_cases s:i=g
 .subst s;rw[t]at q;cases q;have v:aq.getD i false=false:=by grind
  refine VM p U E L AJ y H hk t S AJ (I:=I aq) (J:=I (aq.setIfInBounds i true)) (oa:=oa) (l aq) hi (λk=>R aq a M (w.at k) Shun (H.at k) AJ v m) (λu w' A z=>F aq a w' u A v m z) ?_;grind[sq]
 .refine O2 Q y H (k:=.inRegion ops (i::rest)::k) (k':=.inRegion ops rest::k) CQ CQ (I:=I aq) (J:=I (aq.setIfInBounds i true)) (l aq) (l _) hi (λW N T b cs=>?_) ?_
  .obtain⟨a1,w1,A,z⟩:=KU rest [i] a W (hstep aq a W i o T H.defers N s D q m) b k cs;grind
  grind[sq]
end
end
section
open RowKit
section
variable{ρ:Ren}
theorem VN:∀{l b:uaj},l.length=b.length->(∀(i:Nat)(v a:Value),l[i]?=some v->b[i]?=some a->ax ρ v a)->dx (ax ρ) l b
 | [],[],_,_=>.nil
 | [],_::_,hs,_=>AJ
 | _::_,[],hs,_=>AJ
 | _::_,_::_,hs,h=>.cons (h 0 _ _ Y Y) (VN AJ λi v a d c=>h (i+1) v a AJ AJ)
def yN{l:uaj}{b:fi}(hs:l.toArray.size=b.size)(h:∀(i:Nat)(v a:Value),l.toArray[i]?=some v->b[i]?=some a->ax ρ v a):∃c,b=c.toArray/\dx (ax ρ) l c:=by grind[VN]
def Bx{l:uaj}{u:Value}(h:ax ρ (.tuple l.toArray) u):∃a,u=.tuple a.toArray/\dx (ax ρ) l a:=by cases h with|tuple hs hg=>obtain⟨a,rfl,k⟩:=yN hs hg;grind
def pB{l:uaj}{u:Value}(h:ax ρ (.agg l.toArray) u):∃a,u=.agg a.toArray/\dx (ax ρ) l a:=by cases h with|agg hs hg=>obtain⟨a,rfl,k⟩:=yN hs hg;grind
def gM{k:IntKind}{n:Int}{u:Value}(h:ax ρ (.int k n) u):u=.int k n:=by cases h;rfl
def VO{b:Bool}{u:Value}(h:ax ρ (.bool b) u):u=.bool b:=by cases h;rfl
def kR{l c:Nat}{u:Value}(h:ax ρ (.slice none l c) u):u=.slice none l c:=by cases h;rfl
def rB{b o l c:Nat}{u:Value}(h:ax ρ (.S b o l c) u):∃a,u=.S a o l c/\ρ.rel b a:=by cases h with|@slice _ a' _ _ r=>obtain⟨a,o',s'⟩:=a';obtain⟨f,e,d⟩:=r;grind
def KZ{a:uam}{l c:Nat}{u:Value}(h:ax ρ (.slice a l c) u):∃b,u=.slice b l c:=by cases h with|jV=>grind|slice=>grind
def uO{b o:Nat}{u:Value}(h:ax ρ (.P b o) u):∃a,u=.P a o/\ρ.rel b a:=by cases h with|@ptr _ a' r=>obtain⟨a,o',s'⟩:=a';obtain⟨e,d,c⟩:=r;grind
end
variable{n0:Nat}
def eA(x:Value)(_:aH)(v:Value):Prop:=v=x
theorem By(k:IntKind)(i:Int):kf n0 (eA (.int k i)):=λ_ _ _ _ _ _ hv h=>by cases h;exact gM hv
def auP(b:Bool):kf n0 (eA (.bool b)):=λ_ _ _ _ _ _ hv h=>by cases h;exact VO hv
def auQ:kf n0 (eA undef):=λ_ _ _ _ _ _ hv h=>by cases h;obtain⟨a,rfl,k⟩:=Bx (l:=[]) hv;cases k;rfl
def auR(a b:Int):kf n0 (eA (.agg #[.I a,.I b])):=λ_ _ _ _ _ _ hv h=>by
 cases h;obtain⟨e,rfl,k⟩:=pB hv;cases k with
 |cons d k=>cases k with
  |cons c k=>cases k;rw[gM d,gM c];rfl
def uP(R:uay):Prop:=∀w w' v,cy w w'->R w v->R w' v
def uP.eq(x:Value):uP (eA x):=λ_ _ _ _ h=>h
theorem VP(n j:Nat):(Array.replicate n false).getD j false=false:=by simp_all[Array.getD]
def i_{P:cf}{ops:fC}{Q:ual}{R:uag}{i:Nat}{rest:uad}{a:Act}{w:aH}(h:wpOps P ops (kE R) [i] a w)(k:∀a w,R a w->wpOps P ops Q rest a w):wpOps P ops Q (i::rest) a w:=by
 simp[wpOps]at h⊢;cases m:ops[i]? with
 |none=>simp[m]at h⊢;exact k _ _ h.2
 |some o=>
  simp[m]at h⊢;by_cases l:veg o ops a.tmps=true
  .simp[l]at h⊢;rcases h with h|⟨-,j,b,hq⟩
   .refine .inl ?_;simp[Oper.wp,Oper.upon]at h⊢;generalize(execOp a.eval o).run P w=r at h⊢;cases r with
    |ok x w'=>
     cases x with
     |value v=>exact k _ _ h.2
     |skip=>exact k _ _ h.2
     |defer d=>exact k _ _ h.2
     |enter f args=>refine Calls.mono h ?_;intro e w'' g;cases e with|returned v=>exact k _ _ g.2|panicked c=>cases g.1|outgrown=>obtain⟨j,b,hq⟩:=g;cases hq.1
     |row r args=>exact Rows.mono h λ_ _ g=>k _ _ g.2
     | _=>exact h.elim
    |halt x w'=>cases x<;>first|exact h.elim|(cases h.1)
   .cases hq.1
  .simp[l]at h⊢;exact k _ _ h.2
theorem yM{P:cf}{ops:fC}{Q:uag}{i:Nat}{o:Oper}{a:Act}{w w1:aH}{v:Value}(d:ops[i]?=some o)(b:veg o ops a.tmps=true){s:Nat}(hd:o.dst=some s)(c:(execOp a.eval o).run P w=.ok (.value v) w1)(h:Q (a.put (some s) v) w1):wpOps P ops (kE Q) [i] a w:=by simp[wpOps,d,b];refine .inl ?_;simp[Oper.wp,Oper.upon,c,hd];exact⟨Y,h⟩
def auS{P:cf}{ops:fC}{Q:uag}{i:Nat}{o:Oper}{a:Act}{w:aH}(d:ops[i]?=some o)(b:veg o ops a.tmps=true){s:Nat}(hd:o.dst=some s){f:uah}{args:fi}(c:(execOp a.eval o).run P w=.ok (.enter f args) w)(h:Calls P f args w λe w'=>∃v,e=.returned v/\Q (a.put (some s) v) w'):wpOps P ops (kE Q) [i] a w:=by simp[wpOps,d,b];refine .inl ?_;simp[Oper.wp,Oper.upon,c,hd];refine h.mono ?_;rintro e w' ⟨v,rfl,h⟩;exact⟨Y,h⟩
def yK{P:cf}{ops:fC}{Q:uag}{i:Nat}{o:Oper}{a:Act}{w:aH}(c:ops[i]?=some o)(b:veg o ops a.tmps=false){s:Nat}(hd:o.dst=some s)(h:Q (a.put (some s) undef) w):wpOps P ops (kE Q) [i] a w:=by simp[wpOps,c,b,hd];exact⟨Y,h⟩
section
variable{P:cf}{ops:fC}{Q:uag}{i:Nat}{o:Oper}{a:Act}{w w1:aH}{v:Value}
def pC(c:ops[i]?=some o)(d:o.guard=none){s:Nat}(hd:o.dst=some s)(b:(execOp a.eval o).run P w=.ok (.value v) w1)(h:Q (a.put (some s) v) w1):wpOps P ops (kE Q) [i] a w:=yM c (xW d _) hd b h
def tx(c:ops[i]?=some o)(d:o.guard=none)(hd:o.dst=none)(b:(execOp a.eval o).run P w=.ok .skip w1)(h:Q a w1):wpOps P ops (kE Q) [i] a w:=by simp[wpOps,c,xW d];refine .inl ?_;simp[Oper.wp,Oper.upon,b,hd];exact⟨Y,h⟩
end
def auT{ops:fC}{o:Oper}{tmps:fi}{g d:Nat}{b c:Bool}(hg:o.guard=some (g,b))(hd:(ops[g]?).bind (·.dst)=some d)(ht:tmps[d]?=some (.bool c)):Region.wanted o (yielded ops tmps)=(c==b):=by grind[Region.wanted,yielded]
def auU{ops:fC}{o:Oper}{tmps:fi}{g d:Nat}{b:Bool}(hg:o.guard=some (g,b))(hd:(ops[g]?).bind (·.dst)=some d)(ht:tmps[d]?=some undef):Region.wanted o (yielded ops tmps)=false:=by unfold Region.wanted yielded;simp only[hg,hd,Option.bind_some,ht];cases b<;>rfl
def auV{P:cf}{ops:fC}{Q:ual}{R K:uag}{i:Nat}{a:Act}{w:aH}(h:wpOps P ops (kE R) [i] a w)(k:∀a w,R a w->K a w):wpOp P ops Q i K a w:=by
 rw[wpOps_cons]at h;have h:=wpOp_mono (K':=R) (λa w(n:wpOps P ops (kE R) [] a w)=>n.2) h;unfold wpOp at h⊢;cases m:ops[i]? with
 |none=>grind
 |some o=>
  simp[m]at h⊢;by_cases l:veg o ops a.tmps=true
  .simp[l]at h⊢;rcases h with h|⟨-,g,b,hq⟩
   .refine .inl ?_;simp[Oper.wp,Oper.upon]at h⊢;generalize(execOp a.eval o).run P w=r at h⊢;cases r with
    |ok x w'=>
     cases x with
     |value v=>grind
     |skip=>grind
     |defer d=>grind
     |enter f args=>refine Calls.mono h ?_;intro e w'' j;cases e with|returned v=>grind|panicked c=>cases j.1|outgrown=>obtain⟨g,b,hq⟩:=j;cases hq.1
     |row r args=>grind[Rows.mono]
     | _=>exact h.elim
    |halt x w'=>cases x<;>first|exact h.elim|(cases h.1)
   .cases hq.1
  grind
def xX{P:cf}{ops:fC}{ks ks':uaa}{Q:uag}{a:Act}{w:aH}{l:uad}(h:wpOps P ops (kE (b8 P (.inRegion ops []::ks) ks' Q)) l a w):b8 P (.inRegion ops l::ks) ks' Q a w:=λb cs=>by obtain⟨a1,w1,c,f⟩:=KU [] l a w h b ks cs;obtain⟨g,w2,e,d⟩:=c b cs;grind[Steps.trans]
def O5{P:cf}{id n:Nat}{ops:fC}{ks ks':uaa}{Q:uag}{a:Act}{w:aH}(hn:ops.size=n)(h:wpOps P ops (kE (b8 P (.inRegion ops []::ks) ks' Q)) (List.range' 0 n) a w):b8 P (.code (.region id ops false)::ks) ks' Q a w:=uM (xX (hn▸h))
theorem qy{P:cf}{ops:fC}{ks ks':uaa}{Q:uag}{a:Act}{w:aH}(h:b8 P ks ks' Q a w):wpOps P ops (kE (b8 P (.inRegion ops []::ks) ks' Q)) [] a w:=⟨Y,tv h⟩
theorem c2{a:Act}{t:Nat}{v:Value}(h:a.tmps[t]?=some v):a.eval (.tmp t)=v:=by simp[Act.eval,h]
theorem dV{a:Act}{t s:Nat}{v:Value}(h:t≠s):(a.put (some t) v).tmps[s]?=a.tmps[s]?:=by simp[Act.put,h]
def kS{a:Act}{t:Nat}{v:Value}(h:t<a.tmps.size):(a.put (some t) v).tmps[t]?=some v:=by simp[Act.put,h]
end
end aK
namespace aK
def PI{l:uaj}{n:Nat}(h:l.length=n+1):∃x a,l=x::a/\a.length=n:=by cases l<;>grind
def ayh{a:Act}(h:a.tmps.size=40)(hd:a.defers=[]):∃lS cu dr q p o b m k j g f mI e mJ px I H F E mK n d i c D C B A z y x w v u t s r K J,a=⟨#[lS,cu,dr,q,p,o,b,m,k,j,g,f,mI,e,mJ,px,I,H,F,E,mK,n,d,i,c,D,C,B,A,z,y,x,w,v,u,t,s,r,K,J],[]⟩:=by
 obtain⟨⟨l⟩,ds⟩:=a;cases hd;iterate 40
  rcases l with _ |⟨_,l⟩
  .simp at h
 rcases l with _ |⟨_,l⟩
 .iterate 40 apply Exists.intro
  rfl
 .simp at h
section
open Conc ConcM RowKit au bn cC c5 kO
variable{O:fk}
section
variable{P:cf}{Post:fX}{n:Nat}{Shun:uai}{M:dY}{w:aH}{f:uah}{a b:Act}{k k':uaa}{cs:fG}{n0:Nat}{aT:dY}{w0:aH}
theorem m7.act{D:fH}(hd:D.d=cs.length){g:uaf}(h:m7 P D (a0 ((base f).at a k) cs) g):∃b,g=a0 ((base f).at b k) cs/\gb D a b:=by
 generalize c:a0 ((base f).at a k) cs=g0 at h;cases h with
 |same g e=>grind[a0]
 |g7 h v=>cases c;obtain⟨b,rfl,d⟩:=eY.act h;exact⟨b,Y,d⟩
 |under a h=>cases c;have:=h.lt;omega
def LG(m:(c0 P).Good)(hF:P.follows .rangeFuncRecover=true)(v:ln P f){D:fH}(hd:D.d=cs.length)(z:Bn P D f)(A:gb D a b)(F:k.all (hZ D)=true)(H:Held O P aT w0 n0 a M w Shun)(hk:k.all (gL P)=true)(E:k'.all (gL P)=true){I J:uag}(y:qx n0 I)(B:qx n0 J)(h0:I a w)(hrun:∀W,n0<=W.heap.size->I a W->b8 (ae P true) k k' (λa1 w1=>a1.defers=[]/\J a1 w1/\Below n0 W w1) a W)(C:∀a' d M' w',Held O P aT w0 n0 a' M' w' Shun->gb D a' d->J a' w'->bK P Post n Shun 0 (a0 ((base f).at d k') cs) w'):
 bK P Post n Shun 0 (a0 ((base f).at b k) cs) w:=by
 refine Ut m hF (D:=D) H.gq (f:=f) (cs0:=[]) (bs:=cs) (g:=a0 ((base f).at b k) cs) AP (.g7 (A.Uu f k) (z.c7 F a) cs hd.symm _ _) (Kh m v H.all H.defers hk) .nil ⟨Y,Y⟩ (R:=λr cse c l=>cse=[]/\∃a1,r=(base f).at a1 k'/\a1.defers=[]/\J a1 l/\∃T,Below n0 {c with tape:=T} l) (λc e T=>?_) ?_
 .obtain⟨a1,w1,⟨q,p,j⟩,o⟩:=hrun {c with tape:=T} KC (y _ _ _ _ _ (H.gq.mL e T) H.all h0) (base f) [eJ f];grind
 .rintro ρ r cse c l L K w' g' e ⟨rfl,a1,rfl,s,q,T,p⟩ u h i t;cases h;obtain⟨a',rfl,j,o⟩:=Ki s E u;obtain⟨d,rfl,x⟩:=m7.act hd t;exact C a' d (qk ρ) w' (H.next e i p (i.all j) o) x (B _ _ _ _ _ (i.mL H.size) j q)
variable{ops:fC}{i:Nat}{rest:uad}{o:Oper}
theorem gb.put{D:fH}(h:gb D a b){d:Tmp}(e:D.T d=false)(hK:D.K d=false)(u:Value):gb D (a.put (some d) u) (b.put (some d) u):=by
 refine⟨by rw[gY,gY];exact h.size,λi hi=>?_,λi v hi hv=>?_,λi hi=>?_,by rw[put_defers,put_defers];exact h.defers⟩
 .simp[Act.put,vam,h.size,h.same i hi]
 .have c:d≠i:=AJ;simp[Act.put,c]at hv;exact h.gone i v hi hv
 .have c:d≠i:=AJ;simp[Act.put,c];exact h.kept i hi
theorem gb.eval{D:fH}(h:gb D a b){x:uau}(c:Bl D x=true):b.eval x=a.eval x:=by
 cases x with
 |tmp t=>
  have ht:D.T t=false:=by grind[Bl]
  simp[Act.eval,h.same t ht]
 | _=>rfl
structure LH(P:cf)(f:uah)(ops:fC)(k:uaa)(D:Nat->fH):Prop where
 d:∀n,(D n).d=n
 fn:∀n,Bn P (D n) f
 ops:∀n,ops.all (tl (D n) ops)=true
 items:∀n,k.all (hZ (D n))=true
 aS:∀n i,(D n).T i=true->(D n).K i=true
 follows:P.follows .rangeFuncRecover=true
 one:∀n m i,((D n).T i=(D m).T i/\(D n).K i=(D m).K i/\(D n).V i=(D m).V i)
def gb.any{D:Nat->fH}(h:LH P f ops k D){n:Nat}(c:gb (D n) a b)(m:Nat):gb (D m) a b:=
 ⟨c.size,λi hi=>c.same i ((h.one n m i).1.trans hi),λi v hi hv=>c.gone i v ((h.one n m i).1.trans hi) hv,λi hi=>(c.kept i ((h.one n m i).2.1.trans hi)).trans (h.one n m i).2.2,c.defers⟩
def ayK{d:Nat}{g:uah}{dT:Func}{gK:Code}{args:uaw}{ats:uap}(r:o.op=.call {callee:=.value (.func g),args,argTypes:=ats})(hg:P.funcs[g]?=some dT)(A:(dT.name== "runtime.NumGoroutine")=false)(j:dT.body=some gK)(hn:n+16*d<=200)(C:ln P f){D:Nat->fH}(c:LH P f ops k D)(l:gb (D cs.length) a b)(H:Held O P aT w0 n0 a M w Shun)(hk:(Item.inRegion ops []::k).all (gL P)=true)(t:ops[i]?=some o)(R:o.guard=none){h:Tmp}(B:o.dst=some h/\h<a.tmps.size)(T:∀n,kO.iz (D n) o=true){I J:uag}{oa:uay}(F:qx n0 I)(h0:I a w)(K:∀k,ei O P Post g (args.map a.eval) M (w.at k) d (λu _ w'=>oa w' u/\cP M w w'))(S:∀u w',I a w'->oa w' u->J (a.put (some h) u) w')(V:∀a' y M' w' p q,p<=n+16*d->Held O P aT w0 n0 a' M' w' q->gb (D cs.length) a' y->J a' w'->bK P Post p q 0 (a0 ((base f).at y (.inRegion ops rest::k)) cs) w'):
 bK P Post n Shun 0 (a0 ((base f).at b (.inRegion ops (i::rest)::k)) cs) w:=by
 simp only[vbk,vah]at hk;have E:∀n,(D n).T h=false:=λn=>by simp_all[kO.iz,Uo]
 have U:args.map b.eval=args.map a.eval:=Array.map_congr_left λx X=>l.eval (by
  have:=T cs.length;simp only[kO.iz,vah]at this;grind[Array.all_eq_true_iff_forall_mem,Op.operands,Call.operands])
 have hK:(D cs.length).K h=false:=by have:=vao.1 (c.ops cs.length) o (vbd t);simp_all[tl,Up]
 refine zg r hg A j U hn H.gq ⟨C,.inr ⟨D,a,λm=>l.any c m,H.all,c.d,c.fn,c.ops,c.items,λn Y e=>?_,c.aS,c.follows⟩,by rw[l.defers];exact H.defers,hk.1,hk.2,⟨h,AJ,by rw[l.size];grind⟩⟩ t (xW R _) K ?_
 .grind
 rintro u M' w' p q Q N v L z ⟨W,s⟩;rw[B.1];refine V _ _ M' w' p q Q ⟨N,λb j=>v b (H.sub b j),H.since.trans z,H.keep.trans (λb j=>H.sub b j.1) s,?_,Ir,vac H.size z.size⟩ (l.put (E _) hK u) (S u w' (F _ _ _ _ _ (s.mL H.gq) H.all h0) W);exact(H.all.mono (xO v)).set L _
end
section
variable{D D':fH}
def Xe(c:D.T=D'.T)(b:D.K=D'.K)(a:D.sl=D'.sl):tl D=tl D':=by cases D;cases D';simp only at c b a;subst c;subst b;subst a;rfl
def ayL(a:D.T=D'.T):Bl D=Bl D':=by cases D;cases D';simp only at a;subst a;rfl
def t_(g:D.T=D'.T)(j:D.K=D'.K)(h:D.sl=D'.sl):∀c,pr D c=pr D' c:=by intro c;induction c with|region id ops d=>simp[pr,Xe g j h]|seq a b f e=>grind[pr]|cond c a b f e=>simp[pr,f,e,ayL g]|block id c i=>grind[pr]|loop c i=>grind[pr]| _=>rfl
def ayM(d:D.T=D'.T)(b:D.K=D'.K)(a:D.sl=D'.sl):∀x,hZ D x=hZ D' x:=by intro x;cases x with|code c=>exact t_ d b a c|inLoop c=>exact t_ d b a c|inRegion ops l=>simp[hZ,Xe d b a]| _=>rfl
def tX(c:D.T=D'.T)(b:D.K=D'.K)(a:D.sl=D'.sl)(l:uaa):l.all (hZ D)=l.all (hZ D'):=by rw[funext (ayM c b a)]
