import Derived.Test.YtebcnmadaaimoaaGreatPAT
import Derived.Test.YtebcnmadaaimoaaGreatPAU
set_option linter.all false
set_option maxRecDepth 100000
set_option maxHeartbeats 16000000
namespace Go.Proofs.YtebcnmadaaimoaaGreat
open Go.Proofs.Tryz
namespace bc
open Conc ConcM RowKit az bo cF c3 bX cu ej
section
variable{O:gW}
def OO{P:cf}{Post:uab}{n:Nat}{Shun:uam}{M:c7}{w:aL}{f:uaj}{a:Act}{k k':fC}{cs:dZ}{n0:Nat}{a8:c7}{w0:aL}(z:(c8 P).Good)(t:ll P f){s s':Nat}{x y:Value}(r:ar (b9 M) x x)(q:ar (b9 M) y y)(H:Held O P a8 w0 n0 a M w Shun)(hk:k.all (gI P)=true)(C:k'.all (gI P)=true){I J:uaf}(u:qe n0 I)(A:qe n0 J)(h0:I a w)(hrun:∀W,n0<=W.heap.size->I a W->bO (ae P true) k k' (λa1 w1=>a1.defers=[]/\(a1.tmps[s]?=some x/\a1.tmps[s']?=some y)/\J a1 w1/\Below n0 W w1) a W)(B:∀a' M' w',Held O P a8 w0 n0 a' M' w' Shun->(a'.tmps[s]?=some x/\a'.tmps[s']?=some y)->J a' w'->bU P Post n Shun 0 (aY ((base f).at a' k') cs) w'):
 bU P Post n Shun 0 (aY ((base f).at a k) cs) w:=by
 refine X7 z H.gn t H.all H.defers hk C (Q:=λd a1 w1=>(a1.tmps[s]?=some x/\a1.tmps[s']?=some y)/\J a1 w1/\∃T,Below n0 {d with tape:=T} w1) (λd i T b cs=>?_) ?_
 .obtain⟨a1,w1,⟨m,g,l,c⟩,j⟩:=hrun {d with tape:=T} (by show n0<=d.heap.size;rw[i.size];exact H.size) (u _ _ _ _ _ (H.gn.kX i T) H.all h0) b cs;exact⟨a1,w1,⟨m,g,l,T,c⟩,j⟩
 .rintro ρ d a1 w1 a' w' i ⟨g,m,T,l⟩ c j h;have key:∀(s:Nat) v,ar (b9 M) v v->a1.tmps[s]?=some v->a'.tmps[s]?=some v:=λs v hv e=>by obtain⟨D,p,o⟩:=c.some e;rw[p,h.same hv o]
  exact B a' (qa ρ) w' (H.next i h l (h.all c) j) ⟨key _ _ r g.1,key _ _ q g.2⟩ (A _ _ _ _ _ (h.kX H.size) c m)
def KN:ir prog true Tryz.f18=true:=by decide+kernel
def avC:∃o ats,(ay Tryz.f18 5)[4]?=some o/\o.op=.call {callee:=.value (.func 25),args:=#[.tmp 25,.tmp 26,.tmp 27,.tmp 28],argTypes:=ats}/\o.guard=none/\o.dst=some 29:=⟨_,_,U,U,U,U⟩
section
variable{Post:uab}{M:c7}{w:aL}{br:Value}{bP:uan}{cap:Nat}{ns:List tp}{ts:List (List aI)}{eH:List (List a7)}{W am:Int}{cs:dZ}
def wM{dS:a5}(hok:dS.ok=λ_=>True)(p:∃Shun,Home O prog M Shun w)(P:ar (b9 M) br br)(Q:ar (b9 M) (.slice bP ns.length cap) (.slice bP ns.length cap))(ht:(c9 1 mc ts).R w br)(tT:(c9 7 oQ ns).R w (.slice bP ns.length cap))(a4:ns.length<=1000){k:Nat}(Y:k<ns.length)(rX:(eH.take k).length=k)(t:∀args M w,aM (b9 M) args args->af 86 (a3 [(0,rp ns[k]),(1,c9 1 mc ts),(2,c9 1 rn (eH.take k)),(3,mW W am)]) ⟨args++Array.replicate (86-args.size) undef,[]⟩ w->gJ O prog Post 25 args M w 1 (λu _ w'=>dS.R w' u/\cS M w w')){a':Act}{M':c7}{w':aL}{q:Nat}{V:uam}(pJ:q+16<=200)(j:Held O prog M w w.heap.size a' M' w' V)(hs:a'.tmps[0]?=some br/\a'.tmps[17]?=some (.slice bP ns.length cap))(g:af 57 (a3 (lx w.heap.size ns.length (eH.take k) W am k)) a' w')(dr:∀a r c n m,n<=q+16->Held O prog M w w.heap.size a r c m->(a.tmps[0]?=some br/\a.tmps[17]?=some (.slice bP ns.length cap))->af 57 (a3 ((29,dS)::(10,bd k)::lx w.heap.size ns.length (eH.take k) W am k)) a c->bU prog Post n m 0 (aY ((base 18).at a (.R (ay Tryz.f18 5) (List.range' 5 5)::EH Tryz.f18)) cs) c):
 bU prog Post q V 0 (aY ((base 18).at a' (uD Tryz.f18)) cs) w':=by
 obtain⟨Shun,p⟩:=p;have T:ll prog 18:=C8 func18 KN EI;have R:cS M w w':=j.keep.sub λb hb t=>⟨hb,t⟩;have mJ:=vag Y;have sub:∀{M'},(∀b,M b->M' b)->ar (b9 M') br br/\ar (b9 M') (.slice bP ns.length cap) (.slice bP ns.length cap):=λh=>⟨P.mono (qd h),Q.mono (qd h)⟩;refine OO qn T (sub j.sub).1 (sub j.sub).2 j (k':=.R (ay Tryz.f18 5) (List.range' 4 6)::EH Tryz.f18) AQ AQ (s:=0) (s':=17) (I:=af 57 (a3 ((0,c9 1 mc ts)::(17,c9 7 oQ ns)::lx w.heap.size ns.length (eH.take k) W am k))) (J:=af 57 (a3 ((27,c9 1 rn (eH.take k))::(25,rp ns[k])::(26,c9 1 mc ts)::(28,mW W am)::(10,bd k)::lx w.heap.size ns.length (eH.take k) W am k))) (lq _ (jO ⟨NE,NE,rfl,rfl,NE,NE,NE,NE⟩)) (lq _ (jO ⟨NE,NE,NE,NE,NE,rfl,rfl,NE,NE,NE,NE⟩)) (ga hs.1 ((c9 1 mc ts).io 0 trivial _ _ _ _ _ (R.kX p) P ht)<|ga hs.2 ((c9 7 oQ ns).io 0 trivial _ _ _ _ _ (R.kX p) Q tT) g) (λW1 hW g=>?_) λbb X H f S e=>?_
 .obtain⟨v,U,bm⟩:=g.has 0 _ rfl;obtain⟨u,L,q4⟩:=g.has 17 _ rfl;rw[hs.1]at U;rw[hs.2]at L;cases U;cases L;exact ava rX a4 Y mJ j.defers hW hs.1 hs.2 bm q4 (g.aZ ⟨rfl,rfl,rfl,rfl,rfl,NE⟩)
 obtain⟨o,ats,ho,x,en,jy⟩:=avC;refine Tn (i:=4) (rest:=List.range' 5 5) (d:=1) x func25 Ao Va AX T f AQ ho en ⟨jy,by rw[e.size];decide⟩ (I:=af 57 (a3 ((27,c9 1 rn (eH.take k))::(25,rp ns[k])::(26,c9 1 mc ts)::(28,mW W am)::(10,bd k)::lx w.heap.size ns.length (eH.take k) W am k))) (J:=λa c=>(a.tmps[0]?=some br/\a.tmps[17]?=some (.slice bP ns.length cap))/\af 57 (a3 ((29,dS)::(10,bd k)::lx w.heap.size ns.length (eH.take k) W am k)) a c) (n7:=dS.R) (lq _ (jO ⟨NE,NE,NE,NE,NE,rfl,rfl,NE,NE,NE,NE⟩)) e (λk'=>?_) (λu c h1 h2=>?_) λa r c n m wJ gK⟨j3,Z⟩=>?_
 .have e:=lq (N:=57) (K:=a3 ((27,c9 1 rn (eH.take k))::(25,rp ns[k])::(26,c9 1 mc ts)::(28,mW W am)::(10,bd k)::lx w.heap.size ns.length (eH.take k) W am k)) w.heap.size (jO ⟨NE,NE,NE,NE,NE,rfl,rfl,NE,NE,NE,NE⟩) _ _ _ _ _ ((cS.Gx X H k').kX f.gn) f.all e;obtain⟨v25,E,B⟩:=e.has 25 _ rfl;obtain⟨v26,D,A⟩:=e.has 26 _ rfl;obtain⟨v27,C,z⟩:=e.has 27 _ rfl;obtain⟨v28,F,y⟩:=e.has 28 _ rfl;rw[show(#[Operand.tmp 25,.tmp 26,.tmp 27,.tmp 28].map bb.eval)=#[v25,v26,v27,v28]from by simp[cB E,cB D,cB C,cB F]];exact t _ X (H.at k') (oK (l:=[v25,v26,v27,v28]) λv hv=>by
   simp only[vbo,vdd,or_false]at hv;rcases hv with rfl|rfl|rfl|rfl
   .exact f.all.get _ _ _ E E
   .exact f.all.get _ _ _ D D
   .exact f.all.get _ _ _ C C
   .exact f.all.get _ _ _ F F) (ga (v:=v25) LN B<|ga (v:=v26) LN A<|ga (v:=v27) LN z<|ga (v:=v28) LN y<|Hk Ab)
 .exact⟨⟨(dF AU).trans S.1,(dF AU).trans S.2⟩,(h1.put AU (vaa _ _) h2).aZ ⟨rfl,rfl,rfl,rfl,rfl,rfl,rfl,NE⟩⟩
 .exact dr a r c n m AX gK j3 Z
def avH{m n:Nat}{Shun:uam}(r:aM (b9 M) #[br,.slice bP ns.length cap,.agg #[.I W,.I am]] #[br,.slice bP ns.length cap,.agg #[.I W,.I am]])(ht:(c9 1 mc ts).R w br)(Q:(c9 7 oQ ns).R w (.slice bP ns.length cap))(hl:eH.length=m)(hm:m<=ns.length)(a4:ns.length<=1000)(p:∀x∈eH,x.length<=300/\Full x)(hn:n+16*m<=200)(E:Home O prog M Shun w)(X:∀(k:Nat) iI x,ns[k]?=some iI->eH[k]?=some x->∀args M w,aM (b9 M) args args->af 86 (a3 [(0,rp iI),(1,c9 1 mc ts),(2,c9 1 rn (eH.take k)),(3,mW W am)]) ⟨args++Array.replicate (86-args.size) undef,[]⟩ w->gJ O prog Post 25 args M w 1 (λu _ w'=>(qp x).R w' u/\cS M w w'))(Z:∀a' M' w' b d,b<=n+16*m->Held O prog M w w.heap.size a' M' w' d->(a'.tmps[0]?=some br/\a'.tmps[17]?=some (.slice bP ns.length cap))->af 57 (a3 (lx w.heap.size ns.length eH W am m)) a' w'->bU prog Post b d 0 (aY ((base 18).at a' (uD Tryz.f18)) cs) w'):
 bU prog Post n Shun 0 (aY (Frame.enter prog 18 #[br,.slice bP ns.length cap,.agg #[.I W,.I am]] .normal) cs) w:=by
 have D:ll prog 18:=C8 func18 KN EI;rw[vdv func18 EI];have g:=r.get 0 _ _ rfl rfl;have o:=r.get 1 _ _ rfl rfl;have loop:∀j k,k+j=m->∀a' M' w' b d,b<=n+16*k->Held O prog M w w.heap.size a' M' w' d->(a'.tmps[0]?=some br/\a'.tmps[17]?=some (.slice bP ns.length cap))->af 57 (a3 (lx w.heap.size ns.length (eH.take k) W am k)) a' w'->bU prog Post b d 0 (aY ((base 18).at a' (uD Tryz.f18)) cs) w':=by
  intro j;induction j with
  |zero=>intro k hk a' M' w' b d B t hs c;obtain rfl:k=m:=hk;rw[vbz AX]at c;exact Z a' M' w' b d B t hs c
  |succ j T=>intro k hk a' M' w' b d B t hs c;have z:k<ns.length:=AX;have A:(eH.take k).length=k:=A2;have V:=vag (l:=eH) (i:=k) AX;have e:eH[k]∈eH:=vax _;refine wM (dS:=qp eH[k]) rfl ⟨Shun,E⟩ g o ht Q a4 z A (X k _ _ (vag z) V) AX t hs c λbI mV w3 S L wJ f C K=>?_;refine OO qn D (g.mono (qd f.sub)) (o.mono (qd f.sub)) f (k':=uD Tryz.f18) AQ AQ (s:=0) (s':=17) (I:=af 57 (a3 ((29,qp eH[k])::lx w.heap.size ns.length (eH.take k) W am k))) (J:=af 57 (a3 (lx w.heap.size ns.length (eH.take k++[eH[k]]) W am (k+1)))) (lq _ (jO ⟨NE,rfl,rfl,NE,NE,NE,NE⟩)) (lq _ (jO ⟨rfl,rfl,NE,NE,NE,NE⟩)) (K.aZ ⟨rfl,rfl,rfl,rfl,rfl,rfl,NE⟩) (λW1 q c=>xn A a4 z (p _ e).1 (p _ e).2 (λx h=>(p x (List.mem_of_mem_take h)).2) f.defers q C.1 C.2 c) λbC y N Bv LS F=>?_;rw[List.take_append_getElem AX]at F;exact T (k+1) AX bC y N S L AX Bv LS F
 have H:=Held.start (n0:=w.heap.size) E Jb (a:=⟨#[br,.slice bP ns.length cap,.agg #[.I W,.I am]]++Array.replicate 54 undef,[]⟩) (r.append (KI _ _)) rfl;exact OO qn D g o H (k':=uD Tryz.f18) AQ AQ (s:=0) (s':=17) (I:=af 57 (a3 [(2,mW W am),(3,pp)])) (J:=af 57 (a3 (lx w.heap.size ns.length [] W am 0))) (lq _ (jO ⟨NE,NE,NE⟩)) (lq _ (jO ⟨rfl,rfl,NE,NE,NE,NE⟩)) (ga (v:=.agg #[.I W,.I am]) LN rfl<|ga (v:=undef) Ab rfl<|Hk Ab) (λW1 q c=>au_ a4 rfl q (ga (v:=br) LN rfl<|ga (v:=.slice bP ns.length cap) LN rfl c)) λbb M2 P Y U R=>loop m 0 (vbr _) bb M2 P n Shun Jb Y U R
end
def wF{n0 k:Nat}:kE n0 (λ_ u=>Hm k u):=by
 rintro ρ w w' v f h hv rfl;obtain⟨g,rfl,k⟩:=Gz (l:=[.N,.I 6,.agg #[.I _,.N]]) hv;cases k with
 |cons d k=>cases k with
  |cons c k=>cases k with
   |cons b k=>
    cases k;obtain⟨l2,rfl,k⟩:=ra (l:=[.I _,.N]) b;cases k with
    |cons a k=>cases k with
     |cons e k=>cases k;rw[l8 d,gX c,gX a,l8 e];rfl
def wB(k:Nat)(full:List a7)(w:aL)(u:Value):Prop:=full.length<=300/\Hh full w u\/300<full.length/\Hm k u
def avI{Post:uab}{M:c7}{w:aL}{br bS:Value}{ns:List tp}{ts:List (List aI)}{eH:List (List a7)}{full:List a7}{W am:Int}(t:aM (b9 M) #[br,bS,.agg #[.I W,.I am]] #[br,bS,.agg #[.I W,.I am]])(ht:(c9 1 mc ts).R w br)(l:(c9 7 oQ ns).R w bS)(hl:eH.length+1=ns.length)(a4:ns.length<=1000)(F:∀x∈eH,x.length<=300/\Full x)(ZS:Full full)(d:∀(k:Nat) iI x,ns[k]?=some iI->eH[k]?=some x->∀args M w,aM (b9 M) args args->af 86 (a3 [(0,rp iI),(1,c9 1 mc ts),(2,c9 1 rn (eH.take k)),(3,mW W am)]) ⟨args++Array.replicate (86-args.size) undef,[]⟩ w->gJ O prog Post 25 args M w 1 (λu _ w'=>(qp x).R w' u/\cS M w w'))(T:∀iI,ns[eH.length]?=some iI->∀args M w,aM (b9 M) args args->af 86 (a3 [(0,rp iI),(1,c9 1 mc ts),(2,c9 1 rn eH),(3,mW W am)]) ⟨args++Array.replicate (86-args.size) undef,[]⟩ w->gJ O prog Post 25 args M w 1 (λu _ w'=>(Hn full).R w' u/\cS M w w')):
 gJ O prog Post 18 #[br,bS,.agg #[.I W,.I am]] M w ns.length (λu _ w'=>wB eH.length full w' u/\cS M w w'):=by
 intro n Shun hn L fh aF aC aJ aO aH csZ H K;obtain⟨bP,cap,rfl,-,-⟩:=id l;have Y:ll prog 18:=C8 func18 KN EI;have i:eH.take eH.length=eH:=vbz Jb;have C:=t.get 0 _ _ rfl rfl;have D:=t.get 1 _ _ rfl rfl;refine avH t ht l rfl AX a4 F AX L d λa' M' w' n' bQ pJ X hs a=>?_;refine wM (eH:=eH) (k:=eH.length) (dS:=Hn full) rfl ⟨Shun,L⟩ C D ht l a4 AX (by rw[i]) (by rw[i];exact T _ (vag _)) AX X hs (by rw[i];exact a) λZ mV Q B A wJ c E j=>?_;rw[i]at j;obtain⟨u,q,rs,S,R⟩:=j.has 29 _ rfl;have g:af 57 (a3 ((29,qp rs)::(10,bd (eH.length:Int))::lx w.heap.size ns.length eH W am eH.length)) Z Q:=ga q R (j.aZ ⟨rfl,rfl,rfl,rfl,rfl,rfl,NE⟩);rcases S with⟨rfl,e⟩|⟨V,U⟩
 .refine OO qn Y (C.mono (qd c.sub)) (D.mono (qd c.sub)) c (k':=uD Tryz.f18) AQ AQ (s:=0) (s':=17) (I:=af 57 (a3 ((29,qp rs)::lx w.heap.size ns.length eH W am eH.length))) (J:=af 57 (a3 (lx w.heap.size ns.length (eH++[rs]) W am (eH.length+1:Nat)))) (lq _ (jO ⟨NE,rfl,rfl,NE,NE,NE,NE⟩)) (lq _ (jO ⟨rfl,rfl,NE,NE,NE,NE⟩)) (g.aZ ⟨rfl,rfl,rfl,rfl,rfl,rfl,NE⟩) (λN f a=>xn rfl a4 AX e ZS (λx h=>(F x h).2) c.defers f E.1 E.2 a) λbC aeq w4 P LS g=>?_;rw[hl]at g;refine NG qn func18 KN EI P AQ H (I:=af 57 (a3 (lx w.heap.size ns.length (eH++[rs]) W am ns.length))) (iU:=Hh rs) (lq _ (jO ⟨rfl,rfl,NE,NE,NE,NE⟩)) (Om _) g (λN f a=>avr A2 AX a4 (by rw[<-hl];simp) P.defers f a) λu z dK g1 v y p o m=>K u z dK B A AX g1 v y p ⟨.inl ⟨e,m⟩,o.sub λb r d=>⟨r,d⟩⟩
 .exact NG qn func18 KN EI c AQ H (I:=af 57 (a3 ((29,qp rs)::(10,bd (eH.length:Int))::lx w.heap.size ns.length eH W am eH.length))) (iU:=λ_ u=>Hm eH.length u) (lq _ (jO ⟨NE,NE,rfl,rfl,NE,NE,NE,NE⟩)) wF g (λN f a=>avv V c.defers f a) λu z dK g1 v y p o m=>K u z dK B A AX g1 v y p ⟨.inr ⟨U,m⟩,o.sub λb r d=>⟨r,d⟩⟩
end
end bc
namespace bc
open Conc ConcM RowKit az bo cF c3 bX cu
variable{v:Value}
section
variable{n0:Nat}
def OY(n0:Nat)(T:uaa)(N:Nat)(w:aL)(v:Value):Prop:=∃b cs,v=.P b 0/\n0<=b/\ah w b cs T/\cs.size=N
def av5(T:uaa)(N:Nat):kE n0 (OY n0 T N):=by rintro ρ w w' v h a hv ⟨b,cs,rfl,hn,c,hs⟩;obtain⟨g,rfl,r⟩:=A9 hv;obtain⟨f,e,d⟩:=a.types _ _ _ _ _ r c;exact⟨g,f,U,a.new _ _ r hn,e,d.trans hs⟩
def wk(ts:List (List aI))(w:aL)(v:Value):Prop:=(c9 1 mc ts).R w v
def av6(ts:List (List aI)):kE n0 (wk ts):=(c9 1 mc ts).io n0 trivial
def Vo{ρ:Ren}{w w':aL}(z:Carry ρ w w'){k e no:Nat}(r:ρ.rel k e){op a b:Int}{ka i:uan}{n kc d:Nat}(h:wi w k no op a b ka i n kc d):∃g f,ar ρ (.slice ka n kc) (.slice g n kc)/\ar ρ (.slice i n d) (.slice f n d)/\wi w' e no op a b g f n kc d:=by have key:∀j v,(kW op a b ka i n kc d)[j]?=some v->∃l,w'.cell? (.a e (no+j))=some l/\ar ρ v l:=λj v c=>z.cell ⟨k,no+j,none⟩ ⟨e,no+j,none⟩ v ⟨r,U,U⟩ (h j v c);obtain⟨mF,h0,B⟩:=key 0 _ U;obtain⟨dw,q,x⟩:=key 1 _ U;obtain⟨dI,p,u⟩:=key 2 _ U;obtain⟨E,o,k3⟩:=key 3 _ U;obtain⟨nO,A,m⟩:=key 4 _ U;obtain⟨D,C,s⟩:=key 5 _ U;obtain⟨F,t,y⟩:=key 6 _ U;rw[gX B]at h0;rw[gX x]at q;rw[gX u]at p;rw[l8 k3]at o;rw[l8 y]at t;obtain⟨g,rfl⟩:=NJ m;obtain⟨f,rfl⟩:=NJ s;refine⟨g,f,m,s,λj v c=>?_⟩;match j with|0=>cases c;exact h0|1=>cases c;exact q|2=>cases c;exact p|3=>cases c;exact o|4=>cases c;exact A|5=>cases c;exact C|6=>cases c;exact t|j+7=>simp[kW]at c
def uG(k:Int)(w:aL)(v:Value):Prop:=∃bT no bK kb ii ob iB kc cK,v=.S bT no 3 bK/\Bz w bT no k kb ii ob iB kc cK
def av7(k:Int):kE n0 (uG k):=by rintro ρ w w' v F a hv ⟨K,no,y,kb,b,ob,c,kc,u,rfl,h⟩;obtain⟨B,rfl,r⟩:=xf hv;obtain⟨J,I,p,n,m⟩:=Vo a.cells r h.n0;obtain⟨f0,f1,l0,l1,l2⟩:=Vo a.cells r h.n1;obtain⟨H,g1,C,m1,l⟩:=Vo a.cells r h.eJ;have t:=l8 p;have a1:=l8 n;have x:=l8 l0;have z:=l8 l1;cases t;cases a1;cases x;cases z;obtain⟨g,s,j⟩:=xf C;cases s;obtain⟨f,q,i⟩:=xf m1;cases q;obtain⟨E,d,o⟩:=a.cells.cell ⟨kb,b,none⟩ ⟨g,b,none⟩ _ ⟨j,U,U⟩ h.key;obtain⟨D,e,A⟩:=a.cells.cell ⟨ob,c,none⟩ ⟨f,c,none⟩ _ ⟨i,U,U⟩ h.iv;rw[gX o]at d;rw[gX A]at e;exact⟨B,no,y,g,b,f,c,kc,u,U,m,l2,l,d,e⟩
def Vp(N:Nat)(l:uae)(w:aL)(x:Value):Prop:=∃g c v,x=.S g 0 N c/\w.cell? (.a g (N-1))=some v/\gC w v l
def av8(N:Nat)(l:uae):kE n0 (Vp N l):=by rintro ρ w w' v j a hv ⟨g,c,x,rfl,i,h⟩;obtain⟨b,rfl,r⟩:=xf hv;obtain⟨d,f,e⟩:=a.cells.cell ⟨g,N-1,none⟩ ⟨b,N-1,none⟩ x ⟨r,U,U⟩ i;exact⟨b,c,d,U,f,az.a0.carry ano a.cells e h⟩
def O3{ρ:Ren}{w w':aL}(g:yL n0 ρ w w'){f:Value}(hv:ar ρ v f){e:uaa}(h:pj w v e):pj w' f e:=by
 intro b d;cases hv with
 |@slice a a' l c r=>simp[Value.ownBlock]at d;subst d;obtain⟨c,z,i⟩:=h a.block U;obtain⟨k,j,-⟩:=g.types _ _ _ _ _ r.1 i;grind
 | _=>cases d
def Vq(t:List aI):kE n0 λw v=>lJ w v t:=by rintro ρ w w' v F a hv ⟨⟨bP,cap,rfl,hl,D⟩,ht⟩;obtain⟨E,rfl⟩:=NJ hv;refine⟨⟨E,cap,U,hl,λi hi=>?_⟩,O3 a hv ht⟩;obtain⟨b,off,rfl,be,vs,aV,h0,y,u,s,q,d,m,gv,l⟩:=D i hi;obtain⟨c,e,r⟩:=xf hv;cases e;have key:∀j x,w.cell? (.a b (off+i*5+j))=some x->∃f,w'.cell? (.a c (off+i*5+j))=some f/\ar ρ x f:=λj x p=>a.cells.cell ⟨b,off+i*5+j,none⟩ ⟨c,off+i*5+j,none⟩ x ⟨r,U,U⟩ p;obtain⟨mF,k,C⟩:=key 0 _ h0;obtain⟨dw,g1,n⟩:=key 1 _ y;obtain⟨dI,A,h⟩:=key 2 _ u;obtain⟨z,B,k3⟩:=key 3 _ s;obtain⟨nO,o,g⟩:=key 4 _ q;rw[gX C]at k;rw[gX n]at g1;exact⟨c,off,U,dI,z,nO,k,g1,A,B,o,⟨az.a0.carry wT a.cells h d.fy,az.a0.carry M6 a.cells k3 d.dT,az.a0.carry M5 a.cells g d.dt⟩,O3 a h m,O3 a k3 gv,O3 a g l⟩
def BA(t:List aI)(w:aL)(u:Value):Prop:=∃bE,u=.tuple #[.agg #[bE],.I 0,sx]/\lJ w bE t
def av9(t:List aI):kE n0 (BA t):=by
 rintro ρ w w' v f a hv ⟨bE,rfl,h⟩;obtain⟨g,rfl,k⟩:=Gz hv;cases k with
 |cons d k=>cases k with
  |cons c k=>cases k with
   |cons b k=>cases k;obtain⟨m,rfl,q⟩:=ra d;cases q with|cons e q=>cases q;exact⟨_,by rw[gX c,U3 b],Vq t _ _ _ _ _ a e h⟩
def wk.keeps{ts:List (List aI)}{w w':aL}(h:wk ts w v)(a:bp w w'):wk ts w' v:=a0.mono mc.mono a h
theorem uG.keeps{k:Int}{w w':aL}(h:uG k w v)(d:bp w w'):uG k w' v:=by obtain⟨e,no,f,kb,a,ob,b,kc,c,rfl,h⟩:=h;exact⟨e,no,f,kb,a,ob,b,kc,c,U,h.keeps d⟩
def Ht(k:Nat)(u:Value):Prop:=u=.tuple #[.agg #[.N],.I 6,.agg #[.I k,.N]]
def av_{k:Nat}:kE n0 (λ_ u=>Ht k u):=by
 rintro ρ w w' v g i hv rfl;obtain⟨h,rfl,k⟩:=Gz (l:=[.agg #[.N],.I 6,.agg #[.I _,.N]]) hv;cases k with
 |cons d k=>cases k with
  |cons c k=>cases k with
   |cons b k=>
    cases k;obtain⟨l1,rfl,q⟩:=ra (l:=[.N]) d;cases q with
    |cons e q=>
     cases q;obtain⟨l2,rfl,k⟩:=ra (l:=[.I _,.N]) b;cases k with
     |cons a k=>cases k with
      |cons f k=>cases k;rw[l8 e,gX c,gX a,l8 f];rfl
def zX{Y:ubi}{w w':aL}(a:cC w w'):jh Y w w':=.p9 (.below a)
def xC(t:List aI)(w:aL)(v:Value):Prop:=∃bE,v=.agg #[bE]/\lJ w bE t
theorem xR(t:List aI):kE n0 (xC t):=by rintro ρ w w' v c a hv ⟨bE,rfl,h⟩;obtain⟨m,rfl,q⟩:=ra hv;cases q with|cons b q=>cases q;exact⟨_,U,Vq t _ _ _ _ _ a b h⟩
def Hu(n0:Nat)(t:List aI)(w:aL)(v:Value):Prop:=∃b bE,v=.P b 0/\n0<=b/\ah w b #[bE] 27/\lJ w bE t
theorem Vr(t:List aI):kE n0 (Hu n0 t):=by
 rintro ρ w w' v i a hv ⟨b,bE,rfl,hn,e,h⟩;obtain⟨d,rfl,r⟩:=A9 hv;obtain⟨f,c,k⟩:=a.types _ _ _ _ _ r e;obtain⟨x,j,g⟩:=a.cells.cell ⟨b,0,none⟩ ⟨d,0,none⟩ bE ⟨r,U,U⟩ ((ah.rules e).1 0 |>.trans U);have c:ah w' d f _:=c;have:f=#[x]:=by grind[ah.rules]
 subst this;exact⟨d,x,U,a.new _ _ r hn,c,Vq t _ _ _ _ _ a g h⟩
def me(n0:Nat)(T:uaa)(N:Nat):a5:=⟨OY n0 T N,λ_ _ _ hb⟨b,cs,e,h1,h2,h3⟩=>⟨b,cs,e,h1,h2.call hb,h3⟩,λn=>n=n0,λn h=>h▸av5 T N⟩
def O4(n0:Nat)(t:List aI):a5:=⟨Hu n0 t,λ_ _ _ hb⟨b,bE,e,h1,h2,h3⟩=>⟨b,bE,e,h1,h2.call hb,h3.kept (zX hb)⟩,λn=>n=n0,λn h=>h▸Vr t⟩
def mD(t:List aI):a5:=⟨xC t,λ_ _ _ hb⟨bE,e,h⟩=>⟨bE,e,h.kept (zX hb)⟩,λ_=>True,λ_ _=>xR t⟩
def KQ(t:List (List aI)):a5:=⟨wk t,λ_ _ _ hb h=>h.keeps (bp.b7 hb),λ_=>True,λ_ _=>av6 t⟩
def Hv(fs:Int):a5:=⟨uG fs,λ_ _ _ hb h=>h.keeps (bp.b7 hb),λ_=>True,λ_ _=>av7 fs⟩
def KR(N:Nat)(l:uae):a5:=⟨Vp N l,λ_ _ _ hb⟨g,c,v,e,h1,h2⟩=>⟨g,c,v,e,bp.b7 hb _ _ _ h1,h2.mono pM (bp.b7 hb)⟩,λ_=>True,λ_ _=>av8 N l⟩
def EN(t:List aI):a5:=⟨BA t,λ_ _ _ hb⟨bE,e,h⟩=>⟨bE,e,h.kept (zX hb)⟩,λ_=>True,λ_ _=>av9 t⟩
def KS(rs:List a7):a5:=⟨Hh rs,λ_ _ _ hb⟨bE,e,h⟩=>⟨bE,e,h.mono qX (bp.b7 hb)⟩,λ_=>True,λ_ _=>Om rs⟩
def EO:a5:=⟨eE sx,rb.eq _,λ_=>True,λ_ _ _ _ _ _ _ _ hv h=>by cases h;exact U3 hv⟩
def mB.kept{T:uaa}{w w':aL}(h:mB T w w')(g:¬q9 T):jh q9 w w':=⟨h.1,λb c e z f d=>by
 obtain⟨j,a,-,i⟩:=h.2 b c e z f;rw[i λq=>g (q▸d)]at a;exact a⟩
def mB.box{T T':uaa}{w w':aL}(h:mB T w w'){b:Nat}{cs:df}(c:ah w b cs T'):∃a,ah w' b a T'/\a.size=cs.size/\(T'≠T->a=cs):=h.2 b cs T' _ c
theorem mB.set{T:uaa}{w:aL}{b:Nat}{cs:df}(d:ah w b cs T)(o:Nat)(v:Value):mB T w (w.setCell ⟨b,o,none⟩ v):=⟨by simp[World.setCell],λf c e z a=>by
 by_cases h:f=b
 .subst h;rw[show w.heap[f]?=some (.cells cs T)from d]at a;cases a;exact⟨_,d.set o v,Ab,λh=>absurd U h⟩
 .exact⟨c,(vat _ _ _ _ h).trans a,U,λ_=>U⟩⟩
theorem mB.trans{T:uaa}{w w' w'':aL}(h:mB T w w')(k:mB T w' w''):mB T w w'':=⟨vad h.1 k.1,λb c e z g=>by
 obtain⟨m,l,j,i⟩:=h.2 b c e z g;obtain⟨a,f,d,k3⟩:=k.2 b m e z l;exact⟨a,f,d.trans j,λq=>(k3 q).trans (i q)⟩⟩
abbrev wl(T:uaa):Prop:=T=27\/T=45
def O5{T:uaa}(h:wl T):¬q9 T:=by rcases h with rfl|rfl<;>simp[q9]
section
variable{T T':uaa}{N:Nat}
def Vs:lu T (me n0 T' N):=λw w' v h⟨b,cs,e,g,f,d⟩=>by obtain⟨i,c,a,-⟩:=h.box f;exact⟨b,i,e,g,c,a.trans d⟩
def xP{t:List aI}(c:T=45):lu T (O4 n0 t):=λw w' v h⟨b,bE,e,g,f,d⟩=>by obtain⟨j,a,i,k3⟩:=h.box f;rw[k3 (by rw[c];decide)]at a;exact⟨b,bE,e,g,a,d.kept (h.kept (O5 (.inr c)))⟩
def awb(c:T=27):lu T (Hg n0):=λw w' v h⟨b,e,f,d⟩=>by obtain⟨i,a,g,k3⟩:=h.box d;rw[k3 (by rw[c];decide)]at a;exact⟨b,e,f,a⟩
def awc{t:List aI}(a:wl T):lu T (mD t):=λw w' v h⟨bE,e,b⟩=>⟨bE,e,b.kept (h.kept (O5 a))⟩
def awd{t:List aI}(a:wl T):lu T (EN t):=λw w' v h⟨bE,e,b⟩=>⟨bE,e,b.kept (h.kept (O5 a))⟩
def xO{o:Oper}{x y:uap}{ev:uak}{w:aL}{t:List aI}(e:o.op=.store 27 x y)(g:OY n0 27 1 w (ev x))(f:xC t w (ev y)):∃w',(execOp ev o).run (ae prog true) w=.ok .skip w'/\mB 27 w w'/\Below n0 w w'/\Hu n0 t w' (ev x):=by
 obtain⟨b,cs,h,hn,c,hs⟩:=g;obtain⟨bE,r,a⟩:=f;obtain⟨⟨i,j,rfl,-,-⟩,-⟩:=id a;obtain⟨q,rfl⟩:∃q,cs=#[q]:=by obtain⟨l⟩:=cs;match l,hs with| [q],_=>grind
 have d:=mB.set c 0 (.slice i t.length j);refine⟨_,?_,d,(vaa n0 w).setCell (p:=⟨b,0,none⟩) hn _,b,_,h,hn,c.set 0 _,a.kept (d.kept (O5 KB))⟩;obtain⟨n,m,k⟩:=c.all;clear a d c;cases o;simp only at e;subst e;go_simp
def Vt{o:Oper}{x y:uap}{ev:uak}{w:aL}(d:o.op=.store 45 x y)(f:OY n0 45 2 w (ev x))(e:ev y=sx):∃w',(execOp ev o).run (ae prog true) w=.ok .skip w'/\mB 45 w w'/\Below n0 w w'/\OI n0 w' (ev x):=by
 obtain⟨b,cs,g,hn,a,hs⟩:=f;obtain⟨q,r,rfl⟩:∃q r,cs=#[q,r]:=by obtain⟨l⟩:=cs;match l,hs with| [q,r],_=>grind
 have c:=a.set 0 (.I 0);refine⟨_,?_,(mB.set a 0 (.I 0)).trans (mB.set c 1 (.N)),((vaa n0 w).setCell (p:=⟨b,0,none⟩) hn _).setCell (p:=⟨b,1,none⟩) hn _,b,g,hn,c.set 1 _⟩;obtain⟨j,i,h⟩:=a.all;clear c a;unfold sx at e;cases o;simp only at d;subst d;go_simp
end
end
section
open ej
variable{O:gW}
@[simp] theorem X2:cX true 16:=dg (bB (upd:=true) func16 AQ) AQ
@[simp] theorem X1:cX true 17:=dg (bB (upd:=true) func17 AQ) AQ
theorem awv(W am:Nat)(h:0<W)(g:W<=16)(f:0<am)(d:am<=64)(w:aL):Calls (ae prog true) 16 #[.agg #[.I W,.I am]] w λe w'=>e=.returned (.T)/\cC w w':=by
 have c:(1:Int)<=(W:Int):=AX;have b:(W:Int)<=16:=AX;have k3:(1:Int)<=(am:Int):=AX;have a:(am:Int)<=64:=AX;go_enter (bB (upd:=true) func16 AQ),ntmps16
 go_wp2
 go_ret
 exact⟨U,(vaa _ _).alloc Jb _⟩
@[simp] theorem aww:cX true 20:=dg (bB (upd:=true) func20 AQ) AQ
@[simp] theorem awx:cX true 19:=dg (bB (upd:=true) func19 AQ) AQ
theorem awy:cX true 28:=dg (bB (upd:=true) Tryz.func28 AQ) AQ
def awz(a:df)(w:aL):Sem.run (ae prog true) (callFunc 27 a) w=.ok (.enter 27 a) w:=dg (bB (upd:=true) Tryz.func27 AQ) AQ a w
def awA(c:uan)(a cc:Nat)(w:aL):Calls (ae prog true) 20 #[.slice c a cc] w λe w'=>∃b,e=.returned (.func (.func 28) #[] #[.P b 0])/\w'.cell? (.a b 0)=some (.slice c a cc)/\cC w w':=by
 go_enter (bB (upd:=true) func20 AQ),ntmps20
 go_wp2
 go_ret
 exact⟨_,U,oq (vbg w _) U U,(vaa _ w).alloc Jb _⟩
def awB(g:Nat)(lb:df)(w:aL):Calls (ae prog true) 19 #[.func (.func g) #[] lb,.I 0,.I 9223372036854775807] w λe w'=>∃b1 b2 a,e=.returned (.func (.func 27) #[] #[.P b1 0,.P b2 0,.P a 0])/\w'.cell? (.a b1 0)=some (.func (.func g) #[] lb)/\w'.cell? (.a b2 0)=some (.I 0)/\w'.cell? (.a a 0)=some (.I 9223372036854775807)/\cC w w':=by
 go_enter (bB (upd:=true) func19 AQ),ntmps19
 go_wp2
 go_ret
 refine⟨_,_,_,U,rq (rq (oq (vbg w _) U U) _) _,?_,?_,(((vaa _ w).alloc Jb _).alloc Ab _).alloc A2 _⟩
 .grind[rq,World.alloc_heap_new,World.size_alloc,oq]
 grind[World.alloc_heap_new,World.size_alloc,oq]
def BC(N:Nat)(l:uae):a5:=⟨λw u=>∃x,u=.tuple #[x,.I 0,.I 0]/\Vp N l w x,λ_ _ _ hb⟨x,e,h⟩=>⟨x,e,(KR N l).h8 _ _ _ hb h⟩,λ_=>False,λ_ h=>h.elim⟩
def awC(l:uae):a5:=⟨λw v=>gC w v l,λ_ _ _ hb h=>h.mono pM (bp.b7 hb),λ_=>False,λ_ h=>h.elim⟩
def VB(rs:List a7):a5:=⟨λw v=>gm w v rs,λ_ _ _ hb h=>h.mono qX (bp.b7 hb),λ_=>False,λ_ h=>h.elim⟩
def tj(rs:List a7)(w:aL)(v:Value):Prop:=∃b x,v=.func (.func 28) #[] #[.P b 0]/\w.cell? (.a b 0)=some x/\gm w x rs
def s8(rs:List a7):a5:=⟨tj rs,λ_ _ _ hb⟨b,x,e,h1,h2⟩=>⟨b,x,e,bp.b7 hb _ _ _ h1,h2.mono qX (bp.b7 hb)⟩,λ_=>False,λ_ h=>h.elim⟩
def awD(rs:List a7):a5:=⟨λw v=>∃b1 b2 b5 x,v=.func (.func 27) #[] #[.P b1 0,.P b2 0,.P b5 0]/\w.cell? (.a b1 0)=some x/\w.cell? (.a b2 0)=some (.I 0)/\w.cell? (.a b5 0)=some (.I 9223372036854775807)/\tj rs w x,λ_ _ _ hb⟨b1,b2,b5,x,e,h1,h2,h3,h⟩=>⟨b1,b2,b5,x,e,bp.b7 hb _ _ _ h1,bp.b7 hb _ _ _ h2,bp.b7 hb _ _ _ h3,(s8 rs).h8 _ _ _ hb h⟩,λ_=>False,λ_ h=>h.elim⟩
section
variable{N:Nat}{K:bJ}{o o2:Oper}{F:a5}{x y:uap}
def VC(a:o.op=.alloc 45)(ev:uak)(w:aL):(execOp ev o).run (ae prog true) w=.ok (.value (.P w.heap.size 0)) (w.alloc (.cells #[.I 0,.N] 45)):=by cases o;simp only at a;subst a;go_simp
def awE(a:o.op=.alloc 27)(ev:uak)(w:aL):(execOp ev o).run (ae prog true) w=.ok (.value (.P w.heap.size 0)) (w.alloc (.cells #[.N] 27)):=by cases o;simp only at a;subst a;go_simp
def s6{B:Nat}(b:o.op=.alloc 27)(a:Act)(w:aL)(c:B<=w.heap.size):yO (ae prog true) o (me B 27 1) a w:=.inl ⟨_,_,awE b _ _,⟨_,_,U,c,ah.new _ _ _,U⟩,(vaa _ w).alloc (vac _) _⟩
def s5{B:Nat}(b:o.op=.alloc 45)(a:Act)(w:aL)(c:B<=w.heap.size):yO (ae prog true) o (me B 45 2) a w:=.inl ⟨_,_,VC b _ _,⟨_,_,U,c,ah.new _ _ _,U⟩,(vaa _ w).alloc (vac _) _⟩
def sJ{s B:Nat}(b:o.op=.alloc 27)(hs:K s=some (qo B F)):bA (ae prog true) N K o (me B 27 1):=λa w hk=>by obtain⟨v,-,c,-⟩:=hk.has s _ hs;exact s6 b a w c
def sz{s B:Nat}(b:o.op=.alloc 45)(hs:K s=some (qo B F)):bA (ae prog true) N K o (me B 45 2):=λa w hk=>by obtain⟨v,-,c,-⟩:=hk.has s _ hs;exact s5 b a w c
def awF{m n:Int}(a:o.op=.build 60 #[(0,x),(1,y)])(e:bl K x (bd m))(d:bl K y (bd n)):bA (ae prog true) N K o (mW m n):=xx e d λev w c b=>by have c:ev x=.I m:=c;have b:ev y=.I n:=b;refine⟨.agg #[.I m,.I n],w,?_,U,vaa _ _⟩;cases o;simp only at a;subst a;go_simp
def awG{ops:du}{i d s:Nat}{Q:uah}{rest:e8}{a:Act}{w:aL}{m n:Int}(l:ops[i]?=some o)(j:ops[i+1]?=some o2)(c:o.op=.alloc 60)(b:o2.op=.store 60 (.tmp d) (.tmp s))(h:K s=some (mW m n))(hk:af N K a w)(hd:o.dst=some d)(g:o2.dst=none)(g1:o.guard=none)(p:o2.guard=none)(a4:d<N)(f:d≠s)(k:∀a' w1,af N (up K d (eY xA (m,n))) a' w1->a'.defers=a.defers->cC w w1->wpOps (ae prog true) ops Q rest a' w1):wpOps (ae prog true) ops Q (i::(i+1)::rest) a w:=by
 obtain⟨v,r,rfl⟩:=hk.has s _ h;have e:cC w (w.alloc (.cells #[.I m,.I n] 60)):=(vaa _ w).alloc Jb _;have cW:=ah.new w #[.I m,.I n] 60;refine OG (F:=eY xA (m,n)) (ED:=w.alloc (.cells #[.I 0,.I 0] 60)) l j g1 p hd g a4 f hk r (λev=>?_) (λev x u=>?_) e ⟨w.heap.size,0,U,cW.rules.1 _,cW.rules.1 _⟩ λa' t q=>k a' _ t q e
 .cases o;simp only at c;subst c;go_simp
 .cases o2;simp only at b;subst b;go_simp
def awH{n:Nat}{l:uae}(a:o.op=.extract x 0)(b:bl K x (BC n l)):bA (ae prog true) N K o (KR n l):=dM b λev w h=>by obtain⟨v,e,h⟩:=h;refine⟨v,w,?_,h,vaa _ _⟩;clear h;cases o;simp only at a;subst a;go_simp
def su{n k:Nat}{l:uae}(a:o.op=.extract x k)(b:bl K x (BC n l))(hk:k=1\/k=2):bA (ae prog true) N K o (bd 0):=dM b λev w h=>by obtain⟨v,e,h⟩:=h;refine⟨.I 0,w,?_,U,vaa _ _⟩;clear h;cases o;simp only at a;subst a;rcases hk with rfl|rfl<;>go_simp
def awI{rs:List a7}(a:o.op=.extract x 0)(b:bl K x (KS rs)):bA (ae prog true) N K o (VB rs):=dM b λev w h=>by obtain⟨v,e,h⟩:=h;refine⟨v,w,?_,h,vaa _ _⟩;clear h;cases o;simp only at a;subst a;go_simp
def awJ{rs:List a7}(a:o.op=.extract x 1)(b:bl K x (KS rs)):bA (ae prog true) N K o (bd 0):=dM b λev w h=>by obtain⟨v,e,h⟩:=h;refine⟨.I 0,w,?_,U,vaa _ _⟩;clear h;cases o;simp only at a;subst a;go_simp
def awK{rs:List a7}(a:o.op=.extract x 2)(b:bl K x (KS rs)):bA (ae prog true) N K o EO:=dM b λev w h=>by obtain⟨v,e,h⟩:=h;refine⟨sx,w,?_,U,vaa _ _⟩;clear h;cases o;simp only at a;subst a;go_simp
def sn{m:Int}{T':uaa}(a:o.op=.binOp .neq 43 x y T')(c:bl K x (bd m))(b:bl K y (bd m)):bA (ae prog true) N K o (eN false):=Bo c b (λ_=>U) λev w e d=>by cases o;simp only at a;subst a;go_simp
def se(l:uae):a5:=⟨λw v=>∃g k x,v=.P g k/\w.cell? (.a g k)=some x/\gC w x l,λ_ _ _ hb⟨g,k,x,e,h1,h2⟩=>⟨g,k,x,e,bp.b7 hb _ _ _ h1,h2.mono pM (bp.b7 hb)⟩,λ_=>False,λ_ h=>h.elim⟩
def awL{n:Nat}{l:uae}(a:o.op=.indexAddr 61 x y)(f:bl K x (KR n l))(e:bl K y (bd ((n-1:Nat):Int)))(hn:0<n):bA (ae prog true) N K o (se l):=xx f e λev w h d=>by obtain⟨g,c,v,k,i,b⟩:=h;have d:ev y=.I ((n-1:Nat):Int):=d;have j:((n-1:Nat):Int)<(n:Int):=AX;refine⟨.P g (n-1),w,?_,⟨g,n-1,v,U,i,b⟩,vaa _ _⟩;clear b;cases o;simp only at a;subst a;go_simp
def awM{l:uae}(a:o.op=.load 76 x)(c:bl K x (se l)):bA (ae prog true) N K o (awC l):=dM c λev w h=>by obtain⟨g,k,v,e,d,b⟩:=h;refine⟨v,w,?_,b,vaa _ _⟩;clear b;cases o;simp only at a;subst a;go_simp
def awN(a:o.op=.build 45 #[]):bA (ae prog true) N K o EO:=xu a
def awO{n:Nat}{l:uae}{T:uaa}(a:o.op=.call {callee:=.builtin .len,args:=#[x],argTypes:=#[T]})(b:bl K x (KR n l))(d:T=61):bA (ae prog true) N K o (bd n):=dM b λev w h=>by obtain⟨g,c,v,e,-,-⟩:=h;subst d;refine⟨.I n,w,?_,U,vaa _ _⟩;cases o;simp only at a;subst a;go_simp
end
end
variable{bS br:Value}
section
open ej
variable{O:gW}
def r_{F:Func}{ops:du}{n0 N i xa sa xi BD sb:Nat}{y:uap}{K:bJ}{a:Act}{w:aL}{ks:fC}{f:List aI}(hk:af N K a w)(hd:a.defers=[])(e:K xa=some (me n0 27 1)/\K sa=some (mD f)/\K BD=some (me n0 45 2)/\K sb=some EO)(j:bl K y (bd 0))(L:∃c o2 b,(ops[i]?=some c/\c.op=.store 27 (.tmp xa) (.tmp sa)/\c.guard=none/\c.dst=none)/\(ops[i+1]?=some o2/\o2.op=.assign y/\o2.guard=none/\o2.dst=some xi)/\ops[i+2]?=some b/\b.op=.store 45 (.tmp BD) (.tmp sb)/\b.guard=none/\b.dst=none)(g:xi<N/\xi≠xa/\xi≠BD/\xi≠sb)(p:∀(tmps:df)(w:aL) ba d bE,tmps[xa]?=some (.P ba 0)->tmps[xi]?=some (.I 0)->tmps[BD]?=some (.P d 0)->ah w ba #[bE] 27->ah w d #[.I 0,.N] 45->(results F tmps).run (ae prog true) w=.ok (.tuple #[.agg #[bE],.I 0,sx]) w):
 sg (ae prog true) F (.R ops (List.range' i 3):: .code .ret::ks) (λv w1=>BA f w1 v/\Below n0 w w1) a w:=by
 obtain⟨c,o2,b,⟨C,p2,B,p4⟩,⟨I,H,A,z⟩,r1,x,u,o⟩:=L;obtain⟨m,a1,J⟩:=hk.has xa _ e.1;obtain⟨vs,b1,b2⟩:=hk.has sa _ e.2.1;obtain⟨n,c1,bG⟩:=hk.has BD _ e.2.2.1;obtain⟨k,d1,E⟩:=hk.has sb _ e.2.2.2;have j:a.eval y=.I 0:=hk.ev j;obtain⟨w1,s,gv,r,l⟩:=xO (n0:=n0) (t:=f) (ev:=a.eval) p2 (by rw[cB a1];exact J) (by rw[cB b1];exact b2);have f1:(a.put (some xi) (.I 0)).tmps[xa]?=some m:=(dF g.2.1).trans a1;have iu:(a.put (some xi) (.I 0)).tmps[BD]?=some n:=(dF g.2.2.1).trans c1;have f3:(a.put (some xi) (.I 0)).tmps[sb]?=some k:=(dF g.2.2.2).trans d1;obtain⟨h,u1,u2,u3,u4⟩:=Vt (n0:=n0) (w:=w1) (ev:=(a.put (some xi) (.I 0)).eval) x (by rw[cB iu];exact Vs w w1 n gv bG) (by rw[cB f3];exact E);rw[cB a1]at l;rw[cB iu]at u4;have q:=xP (n0:=n0) (t:=f) U w1 h m u2 l;obtain⟨ba,bE,rfl,-,dw,dI⟩:=q;obtain⟨d,rfl,-,D⟩:=u4;refine yK (ks':=.code .ret::ks) (xg (h7 (R:=λa' w'=>a=a'/\w1=w') (qf C B p4 s ⟨U,U⟩) ?_));rintro _ _ ⟨rfl,rfl⟩;refine h7 (R:=λa' w'=>a'=a.put (some xi) (.I 0)/\w1=w') (nu I A z (Bs H j _) ⟨U,U⟩) ?_;rintro _ _ ⟨rfl,rfl⟩;refine h7 (R:=λa' w'=>a'=a.put (some xi) (.I 0)/\h=w') (qf r1 u o u1 ⟨U,U⟩) ?_;rintro _ _ ⟨rfl,rfl⟩;exact n8 (lp (Gy ((put_defers _ _ _).trans hd) (p _ h ba d bE f1 (jz (by rw[hk.size];exact g.1)) iu dw D) ⟨⟨bE,U,dI⟩,r.trans (u3)⟩))
def zY(F:Func):Code:=.seq (.seq (.region 8 (ay F 8) false) (.cond (.tmp 60) (.seq (.region 9 (ay F 9) true) .ret) .skip)) (.seq (.region 10 (ay F 10) false) (.seq (.region 11 (ay F 11) false) .ret))
def VD(F:Func):Code:=.seq (.region 0 (ay F 0) false) (.seq (.region 1 (ay F 1) false) (.seq (.seq (.region 2 (ay F 2) false) (.cond (.tmp 35) (.seq (.region 3 (ay F 3) false) .ret) .skip)) (.seq (.region 4 (ay F 4) false) (.seq (.seq (.region 5 (ay F 5) false) (.cond (.tmp 46) (.seq (.region 6 (ay F 6) false) .ret) .skip)) (.seq (.region 7 (ay F 7) false) (zY F))))))
theorem r7:f15.body=some (VD f15):=by kernel_rfl
def O6:ir prog true f15=true:=by decide+kernel
def awQ:∃o ats,(ay f15 7)[3]?=some o/\o.op=.call {callee:=.value (.func 18),args:=#[.tmp 52,.tmp 53,.tmp 54],argTypes:=ats}/\o.guard=none/\o.dst=some 55:=⟨_,_,U,U,U,U⟩
def awR:∃b o2 a,((ay f15 11)[9]?=some b/\b.op=.store 27 (.tmp 12) (.tmp 76)/\b.guard=none/\b.dst=none)/\((ay f15 11)[9+1]?=some o2/\o2.op=.assign (.const (.I 0))/\o2.guard=none/\o2.dst=some 13)/\(ay f15 11)[9+2]?=some a/\a.op=.store 45 (.tmp 14) (.tmp 77)/\a.guard=none/\a.dst=none:=⟨_,_,_,⟨U,U,U,U⟩,⟨U,U,U,U⟩,U,U,U,U⟩
section
variable{g6 g7:a5}{n0 mZ:Nat}{l:uae}{W am:Nat}{rs:List a7}{a:Act}{w:aL}
abbrev KU(g6 g7:a5)(n0 mZ:Nat)(l:uae)(W am:Nat):List (Nat×a5):=[(4,bd 0),(5,bd 9223372036854775807),(12,me n0 27 1),(14,me n0 45 2),(16,KR mZ l),(52,g6),(53,g7),(54,mW W am)]
def awS(Q:∀w br bS,g6.R w br->g7.R w bS->Calls (ae prog true) 17 #[br,bS] w λe w'=>∃v,e=.returned v/\(BC mZ l).R w' v/\cC w w')(E:0<W)(D:W<=16)(C:0<am)(B:am<=64)(hd:a.defers=[])(hn:n0<=w.heap.size)(hk:af 78 (a3 [(0,g6),(1,g7),(2,bd W),(3,bd am),(4,bd 0),(5,bd 9223372036854775807),(77,pp)]) a w):
 bO (ae prog true) [.code (VD f15)] (.R (ay f15 7) (3::List.range' 4 8)::[.code (zY f15)]) (λa1 w1=>a1.defers=[]/\af 78 (a3 (KU g6 g7 n0 mZ l W am)) a1 w1/\Below n0 w w1) a w:=by
 obtain⟨u,b,z⟩:=hk.has 77 _ rfl;have hk:=ga (F:=qo n0 pp) b ⟨hn,z⟩ hk;unfold VD;refine bq ?_;rw[fj (ay f15 0)];refine c5 hk (ao rfl (sJ (s:=77) rfl rfl)<|ao rfl (dX (F:=bd 0) rfl Jx)<|ao rfl (sz (s:=77) rfl rfl)<|rfl) λa1 w1 y d1 b1=>bq ?_;rw[fj (ay f15 1)];refine xz (m:=3) y (ao rfl Jc<|ao rfl Jc<|ao rfl (awF rfl rfl rfl)<|rfl) AU λbb T x O b2=>awG rfl rfl rfl rfl rfl x rfl rfl rfl rfl AU AU λbI S k3 N P=>n8 (bq (bq ?_));rw[fj (ay f15 2)];refine c5 k3 (ao rfl (KH rfl rfl)<|ao rfl (OE (F:=eN true) rfl X2 rfl λv w h=>by cases h;exact(awv W am E D C B w).mono λe w'⟨q,A⟩=>⟨_,q,rfl,A⟩)<|ao rfl (auG rfl rfl)<|ao rfl Jc<|ea rfl Jc<|ea rfl (zP (n:=0) rfl rfl Jx AU AU)<|ao rfl (kn (c:=false) rfl rfl rfl)<|ao rfl Jc<|ea rfl Jc<|ea rfl (zP (n:=0) rfl rfl Jx AU AU)<|ao rfl (kn (c:=false) rfl rfl rfl)<|rfl) λbC R d M bk=>fI (t:=false) (zW d rfl rfl) (nt (bq ?_));rw[fj (ay f15 4)];refine c5 d (ao rfl Jc<|ao rfl Jc<|ao rfl (OF (F:=BC mZ l) rfl X1 rfl rfl λv u w r1 p=>Q w v u r1 p)<|ao rfl Jc<|ao rfl (awH rfl rfl)<|ao rfl (su rfl rfl AU)<|ao rfl (su rfl rfl AU)<|ao rfl KV<|ao rfl KV<|ao rfl KV<|rfl) λZ dK I L bt=>bq (bq ?_);rw[fj (ay f15 5)];refine c5 I (ao rfl Jc<|ao rfl (sn rfl rfl Jx)<|rfl) λY X f K H=>fI (t:=false) (zW f rfl rfl) (nt (bq (uq ?_)));rw[fj (ay f15 7)];refine(show bO _ (.R _ (List.range' 0 (3+9))::_) _ _ _ _ from sw f (ao rfl Jc<|ao rfl Jc<|ao rfl (KH rfl rfl)<|rfl) AU λV U r J cU=>lp ⟨J.trans (K.trans (L.trans (M.trans (N.trans (O.trans (d1.trans hd)))))),r.aZ ⟨rfl,rfl,rfl,rfl,rfl,rfl,rfl,rfl,NE⟩,?_⟩);have o:=b1.trans (b2.mono b1.size);have k:=o.trans (P.mono o.size);have j:=k.trans (bk.mono k.size);have i:=j.trans (bt.mono j.size);have g:=i.trans (H.mono i.size);exact(g.trans (cU.mono g.size)).mono hn
def awU(FG:0<mZ/\mZ<=1000)(hl:l.length<=1000)(Bf:rs.length<=1000)(hlen:∀r∈rs,r.2.length=l.length)(Hx:∀r∈rs,∀d∈r.2,d.text.size<=1000000)(hd:a.defers=[])(hn:n0<=w.heap.size)(hk:af 78 (up (a3 (KU g6 g7 n0 mZ l W am)) 55 (KS rs)) a w):
 sg (ae prog true) f15 (.R (ay f15 7) (List.range' 4 8)::[.code (zY f15)]) (λv w1=>BA (tc l (mX rs) rs.length) w1 v/\Below n0 w w1) a w:=by
 have key:bO (ae prog true) (.R (ay f15 7) (List.range' 4 8)::[.code (zY f15)]) [.R (ay f15 11) (List.range' 9 3),.code .ret] (λa1 w1=>a1.defers=[]/\af 78 (a3 [(12,me n0 27 1),(14,me n0 45 2),(76,mD (tc l (mX rs) rs.length)),(77,EO)]) a1 w1/\Below n0 w w1) a w:=by
  rw[fj (ay f15 7)];refine(show bO _ (.R _ (List.range' 4 (4+4))::_) _ _ _ _ from sw hk (ao rfl Jc<|ao rfl (awI rfl rfl)<|ao rfl (awJ rfl rfl)<|ao rfl (awK rfl rfl)<|rfl) AU λa1 w1 p d1 b1=>xg ?_);obtain⟨v56,VE,L⟩:=p.has 56 _ rfl;obtain⟨v57,VF,K⟩:=p.has 57 _ rfl;obtain⟨v58,VG,J⟩:=p.has 58 _ rfl;obtain⟨o,Q,nE,JL,VH⟩:∃o,(ay f15 7)[11]?=some o/\o.op=.store 45 (.tmp 20) (.tmp 58)/\o.guard=none/\o.dst=none:=⟨_,rfl,rfl,rfl,rfl⟩;rw[fj (ay f15 7)]at Q;refine h7 (R:=λa' w'=>a'=a1.put (some 20) (.P w1.heap.size 0)/\w'=w1.alloc (.cells #[.I 0,.N] 45)) (nu rfl rfl rfl (VC rfl _ _) ⟨rfl,rfl⟩) ?_;rintro bb m ⟨rfl,A⟩;refine h7 (R:=λa' w'=>a'=(a1.put (some 20) (.P w1.heap.size 0)).put (some 19) v56/\m=w') (nu (v:=v56) rfl rfl rfl (Bs rfl (cB ((dF AU).trans VE)) _) ⟨rfl,rfl⟩) ?_;rintro _ _ ⟨rfl,rfl⟩;refine h7 (R:=λa' w'=>a'=((a1.put (some 20) (.P w1.heap.size 0)).put (some 19) v56).put (some 17) v57/\m=w') (nu (v:=v57) rfl rfl rfl (Bs rfl (cB ((dF AU).trans ((dF AU).trans VF))) _) ⟨rfl,rfl⟩) ?_;rintro q _ ⟨z,rfl⟩;have Z:q.tmps[20]?=some (.P w1.heap.size 0):=by rw[z];exact(dF AU).trans ((dF AU).trans (jz (by rw[p.size];decide)))
  have I:q.tmps[58]?=some v58:=by rw[z];exact(dF AU).trans ((dF AU).trans ((dF AU).trans VG))
  obtain⟨N,eU,-,hh,-⟩:=Vt (n0:=w1.heap.size) (ev:=q.eval) (w:=m) nE (by rw[cB Z,A];exact⟨_,_,rfl,vac _,ah.new _ _ _,rfl⟩) (by rw[cB I];exact J);have k:cC w1 N:=((vaa _ w1).alloc Jb _).trans (A▸hh);refine h7 (R:=λa' w'=>q=a'/\N=w') (qf Q JL VH eU ⟨rfl,rfl⟩) ?_;rintro _ _ ⟨rfl,rfl⟩;have O:=((p.put (s:=20) (F:=auF) (v:=.P w1.heap.size 0) AU k trivial).put (s:=19) (F:=VB rs) AU (vaa _ _) ((VB rs).h8 _ _ _ k L)).put (s:=17) (F:=bd 0) AU (vaa _ _) K;rw[<-z]at O;have d4:q.defers=a.defers:=by rw[z,put_defers,put_defers,put_defers];exact d1
  refine n8 ?_;unfold zY;refine bq (bq ?_);rw[fj (ay f15 8)];refine c5 O (ao rfl Jc<|ao rfl (sn rfl rfl Jx)<|rfl) λdl dK V d5 bt=>fI (t:=false) (zW V rfl rfl) (nt (bq ?_));rw[fj (ay f15 10)];refine c5 V (ao rfl Jc<|ao rfl (OE (F:=s8 rs) rfl aww rfl λv w r1=>by
   obtain⟨bM,cc,rfl,-,-⟩:=id r1;exact(awA _ _ _ w).mono λe w'⟨b,g,c,j⟩=>⟨_,g,⟨b,_,rfl,c,a0.mono qX (bp.b7 j) r1⟩,j⟩)<|ao rfl Jc<|ao rfl Jc<|ao rfl (KD (F:=awD rs) rfl awx λa w hk=>by
   obtain⟨v,H,b,x,rfl,r1,B⟩:=hk.has 65 _ rfl;obtain⟨v2,E,rfl⟩:=hk.has 66 _ rfl;obtain⟨v3,C,rfl⟩:=hk.has 67 _ rfl;rw[show(#[Operand.tmp 65,.tmp 66,.tmp 67].map a.eval)=#[.func (.func 28) #[] #[.P b 0],.I 0,.I 9223372036854775807]from by simp[cB H,cB E,cB C]];exact(awB _ _ w).mono λe w'⟨b1,b2,k,g,c,j,D,M⟩=>⟨_,g,⟨b1,b2,k,_,rfl,c,j,D,b,x,rfl,bp.b7 M _ _ _ r1,a0.mono qX (bp.b7 M) B⟩,M⟩)<|ao rfl KV<|rfl) λiT jg iq d6 e7=>bq (uq ?_)
  rw[fj (ay f15 11)];have U9:((mZ:Int)-1)=((mZ-1:Nat):Int):=AX;refine(show bO _ (.R _ (List.range' 0 (9+3))::_) _ _ _ _ from sw iq (ao rfl Jc<|ao rfl Jc<|ao rfl (awO rfl rfl rfl)<|ao rfl (Np (n:=1) rfl rfl Jx Cv AU)<|ao rfl (awL rfl rfl (by rw[<-U9];rfl) FG.1)<|ao rfl (awM rfl rfl)<|ao rfl Jc<|ao rfl (OF (F:=mD (tc l (mX rs) rs.length)) rfl awe rfl rfl λv u w r1 B=>by
   obtain⟨b1,b2,k,x,rfl,p1,p2,p3,b,y,rfl,p4,lP⟩:=B;exact(awi l v rs w r1 hl Bf hlen Hx awz λn=>aoA b1 b2 k w (λn=>aow rs y b w lP AX p4) awy
    (λt W x h=>by obtain⟨_,U,pc,X,Y,rfl,-,-⟩:=h;grind) (λt W W' x hk h=>by
     obtain⟨h0,U,pc,X,Y,rfl,g,c⟩:=h;exact⟨h0,U,pc,X,Y,rfl,g,λ_ _ _ hc=>CW hk (c _ _ _ hc)⟩) AX p1 p2 p3).mono λe w'⟨bE,g,c,j⟩=>⟨_,g,⟨bE,rfl,c⟩,j⟩)<|ao rfl (awN rfl)<|rfl) AU λnk vu oe d7 cU=>lp ⟨d7.trans (d6.trans (d5.trans (d4.trans hd))),oe.aZ ⟨rfl,rfl,rfl,rfl,NE⟩,?_⟩)
  have S:=b1.trans (k.mono b1.size);have T:=S.trans (bt.mono S.size);have P:=T.trans (e7.mono T.size);exact(P.trans (cU.mono P.size)).mono hn
 refine yK (ks':=[.R (ay f15 11) (List.range' 9 3),.code .ret]) λb cs=>?_;obtain⟨a1,w1,⟨g,c,j⟩,D⟩:=key b cs;refine⟨a1,w1,λf cs hf=>?_,D⟩;obtain⟨v,m,fr,⟨H,E⟩,C,q4⟩:=r_ (F:=f15) (ks:=[]) (i:=9) (xa:=12) (sa:=76) (xi:=13) (BD:=14) (sb:=77) (y:=.const (.I 0)) c g ⟨rfl,rfl,rfl,rfl⟩ Jx awR AU (λtmps w ba o_ bE e1 A e3 dw dI=>by simp[results,results15,go_sem,sx,e1,A,e3,dw.rules.1,dI.rules.1]) f cs hf;exact⟨v,m,fr,⟨H,j.trans E⟩,C,q4⟩
def r5{dS Fr:a5}(hg:dS.ok=λ_=>True)(t:Fr.ok=λ_=>True){Post:uab}{M:c7}{d:Nat}(m:∀n,g6.ok n)(k:∀n,g7.ok n)(D:aM (b9 M) #[br,bS] #[br,bS])(r:g6.R w br)(s:g7.R w bS)(C:0<W)(B:W<=16)(A:0<am)(z:am<=64)(H:∀w br bS,g6.R w br->g7.R w bS->Calls (ae prog true) 17 #[br,bS] w λe w'=>∃v,e=.returned v/\(BC mZ l).R w' v/\cC w w')(F:∀M w br bS,aM (b9 M) #[br,bS,.agg #[.I W,.I am]] #[br,bS,.agg #[.I W,.I am]]->g6.R w br->g7.R w bS->gJ O prog Post 18 #[br,bS,.agg #[.I W,.I am]] M w d (λu _ w'=>dS.R w' u/\cS M w w'))(q:∀(n0:Nat) a c,a.defers=[]->n0<=c.heap.size->af 78 (up (a3 (KU g6 g7 n0 mZ l W am)) 55 dS) a c->sg (ae prog true) f15 (.R (ay f15 7) (List.range' 4 8)::[.code (zY f15)]) (λv w1=>Fr.R w1 v/\Below n0 c w1) a c):
 gJ O prog Post 15 #[br,bS,.I W,.I am,.I 0,.I 9223372036854775807] M w d (λu _ w'=>Fr.R w' u/\cS M w w'):=by
 obtain⟨o,ats,y⟩:=awQ;refine O1 (N:=78) (l0:=[(0,g6),(1,g7),(2,bd W),(3,bd am),(4,bd 0),(5,bd 9223372036854775807),(77,pp)]) (l1:=KU g6 g7 w.heap.size mZ l W am) (dS:=dS) (Fr:=Fr) qn func15 O6 r7 ?_ ?_ ⟨m _,k _,NE,NE,NE,NE,NE,NE⟩ ⟨NE,NE,U,U,NE,m _,k _,NE,NE⟩ (by rw[hg];trivial) (by rw[t];trivial) AQ (ks:=[.code (zY f15)]) AQ y AU func18 Ao EI (λa c hd hn hk=>awS H C B A z hd hn hk) (λa E w1 Shun I hk h=>?_) (λa c hd hn hk=>q _ a c hd hn hk)
 .exact aM.append (a:=#[br,bS]) (b:=#[.I W,.I am,.I 0,.I 9223372036854775807]) D (oK (l:=[.I W,.I am,.I 0,.I 9223372036854775807]) λx f=>by
   simp at f;rcases f with rfl|rfl|rfl|rfl<;>exact .int _ _)
 .exact ga (v:=br) LN r<|ga (v:=bS) LN s<|ga (v:=.I W) LN U<|ga (v:=.I am) LN U<|ga (v:=.I 0) LN U<|ga (v:=.I 9223372036854775807) LN U<|ga (v:=undef) (by simp[f15]) U<|Hk (by simp[f15])
 .obtain⟨v52,j,r1⟩:=hk.has 52 _ U;obtain⟨v53,i,p⟩:=hk.has 53 _ U;obtain⟨v54,g,rfl⟩:=hk.has 54 _ U;rw[show(#[Operand.tmp 52,.tmp 53,.tmp 54].map a.eval)=#[v52,v53,.agg #[.I W,.I am]]from by simp[cB j,cB i,cB g]];exact F E w1 v52 v53 (oK (l:=[v52,v53,.agg #[.I W,.I am]]) λx f=>by
   simp only[vbo,vdd,or_false]at f;rcases f with rfl|rfl|rfl
   .exact h.get _ _ _ j j
   .exact h.get _ _ _ i i
   .exact h.get _ _ _ g g) r1 p
def awZ{Post:uab}{M:c7}{d:Nat}(c:∀n,g6.ok n)(b:∀n,g7.ok n)(m:aM (b9 M) #[br,bS] #[br,bS])(f:g6.R w br)(g:g7.R w bS)(k:0<W)(j:W<=16)(i:0<am)(h:am<=64)(q:0<mZ/\mZ<=1000)(hl:l.length<=1000)(t:rs.length<=1000)(hlen:∀r∈rs,r.2.length=l.length)(p:∀r∈rs,∀d∈r.2,d.text.size<=1000000)(s:∀w br bS,g6.R w br->g7.R w bS->Calls (ae prog true) 17 #[br,bS] w λe w'=>∃v,e=.returned v/\(BC mZ l).R w' v/\cC w w')(o:∀M w br bS,aM (b9 M) #[br,bS,.agg #[.I W,.I am]] #[br,bS,.agg #[.I W,.I am]]->g6.R w br->g7.R w bS->gJ O prog Post 18 #[br,bS,.agg #[.I W,.I am]] M w d (λu _ w'=>Hh rs w' u/\cS M w w')):
 gJ O prog Post 15 #[br,bS,.I W,.I am,.I 0,.I 9223372036854775807] M w d (λu _ w'=>BA (tc l (mX rs) rs.length) w' u/\cS M w w'):=
 r5 (dS:=KS rs) (Fr:=EN (tc l (mX rs) rs.length)) U U c b m f g k j i h s o λn0 a x hd hn hk=>awU q hl t hlen p hd hn hk
end
end
section
variable{O:gW}
def KW(k:Nat):List tp:=[(1,0,0,[],[]),(1,1,0,[],[]),(4,0,1,[(k:Int)],[(k:Int)])]
def aw1{k:Nat}{w:aL}(h:uG (k:Int) w v):(c9 7 oQ (KW k)).R w v:=by
 obtain⟨a,no,c,kb,d,ob,e,kc,f,rfl,h⟩:=h;refine⟨_,c,U,by simp[KW],λi hi=>⟨a,no,U,?_⟩⟩;obtain rfl|rfl|rfl:i=0\/i=1\/i=2:=by simp[KW]at hi;omega
 .have h0:∀(j:Nat) v,(kW 1 0 0 none none 0 0 0)[j]?=some v->w.cell? (.a a (no+0*7+j))=some v:=λj v b=>by simpa using h.n0 j v b
  exact⟨_,_,_,_,⟨h0 0 _ U,h0 1 _ U,h0 2 _ U,h0 3 _ U,h0 4 _ U,h0 5 _ U,h0 6 _ U⟩,⟨⟨_,_,_,U⟩,⟨_,_,_,U⟩⟩,a0.nil _ _ _,a0.nil _ _ _⟩
 .have h0:=h.n1;exact⟨_,_,_,_,⟨h0 0 _ U,h0 1 _ U,h0 2 _ U,h0 3 _ U,h0 4 _ U,h0 5 _ U,h0 6 _ U⟩,⟨⟨_,_,_,U⟩,⟨_,_,_,U⟩⟩,a0.nil _ _ _,a0.nil _ _ _⟩
 .have h0:=h.eJ;exact⟨_,_,_,_,⟨h0 0 _ U,h0 1 _ U,h0 2 _ U,h0 3 _ U,h0 4 _ U,h0 5 _ U,h0 6 _ U⟩,⟨⟨_,_,_,U⟩,⟨_,_,_,U⟩⟩,OW h.key,OW h.iv⟩
structure KX(t:List aI)(S k:Nat)(ty:ubp):Prop where
 h0:0<t.length
 hS:S<=300
 il:t[0].dt.length=S
 c6:∀i,i<S->∀c∈t,wG i c
 right:mH t=true
 mR:sM (eL t) (k:Int)=(ty,true)
 key:k<t.length
 O9:∀i,i<S->∀c∈t,(gz c i).text.size<=1000000
def xE(bh bu:List aI)(jE iW k:Nat):List a7:=eT [k] (my [k] (iA bu 0 iW)) (iA bh 0 jE) 0 (iA bh 0 jE).length
def zZ{t:List aI}{S:Nat}{r:a7}(h:r∈iA t 0 S):∃i,i<S/\r=([((i:Nat):Int)],t.map (gz · i)):=by simp only[iA,vbl,List.mem_range]at h;obtain⟨i,hi,rfl⟩:=h;exact⟨i,AX,Ab⟩
def VI{aE:e8}{rs:List a7}{q:db}{r:a7}(h:r∈my aE rs q):r∈rs:=(List.mem_filter.1 h).1
section
variable{bh bu:List aI}{jE iW k:Nat}{ty:ubp}(A:KX bh jE k ty)(B:KX bu iW k ty)(hl:bh.length+bu.length<=8)
include A B hl
theorem aw2:J6 [k] (my [k] (iA bu 0 iW)) (iA bh 0 jE):=by
 have l:=A.hS;have h:=B.hS;refine⟨Hp,λr a x e=>?_,Ab,λq=>?_,λr a q r' f=>?_,λr a d hd=>?_,λq r a d hd=>?_⟩
 .obtain⟨i,hi,rfl⟩:=zZ a;simp at e;subst e;simpa using A.key
 .have:=TB [k] (iA bu 0 iW) q;rw[uh]at this;omega
 .obtain⟨i,hi,rfl⟩:=zZ a;obtain⟨j,g,rfl⟩:=zZ (VI f);simp;omega
 .obtain⟨i,hi,rfl⟩:=zZ a;obtain⟨c,b,rfl⟩:=vbl.1 hd;have:=A.O9 i hi c b;omega
 .obtain⟨i,hi,rfl⟩:=zZ (VI a);obtain⟨c,b,rfl⟩:=vbl.1 hd;have:=B.O9 i hi c b;omega
theorem VJ{r:a7}(h:r∈xE bh bu jE iW k):r.1.length=2/\r.2.length=bh.length+bu.length/\∀d∈r.2,d.text.size<=1000000:=by
 obtain⟨a,l,q,b,g,rfl⟩:=Tp h;obtain⟨i,hi,rfl⟩:=zZ l;obtain⟨j,f,rfl⟩:=zZ (VI g);refine⟨U,Ab,λd hd=>?_⟩;rcases List.mem_append.1 hd with hd|hd
 .obtain⟨c,e,rfl⟩:=vbl.1 hd;exact A.O9 i hi c e
 .obtain⟨c,e,rfl⟩:=vbl.1 hd;exact B.O9 j f c e
theorem rV(w:aL)(br bS:Value)(a:wk [bh,bu] w br)(i:uG (k:Int) w bS):Calls (ae prog true) 17 #[br,bS] w λe w'=>∃v,e=.returned v/\(BC 3 (eL bh++eL bu)).R w' v/\cC w w':=by obtain⟨s,no,t,kb,j,ob,l,kc,q,rfl,h⟩:=i;obtain⟨bP,b,rfl,u,r⟩:=id a;obtain⟨f,d,rfl,-⟩:=r 0 Ab;exact(av1 bh bu k ty f d b s no t kb j ob l kc q w a A.right B.right h A.mR B.mR (by simpa[eL]using hl)).mono λe w'⟨g,c,v,p,o,n,m⟩=>⟨_,p,⟨_,U,g,c,v,U,o,n⟩,m⟩
theorem rU{Post:uab}{W am:Nat}(h:0<W)(g:W<=16)(f:0<am)(e:am<=64)(M:c7)(w:aL)(br bS:Value)(o:aM (b9 M) #[br,bS,.agg #[.I W,.I am]] #[br,bS,.agg #[.I W,.I am]])(m:wk [bh,bu] w br)(n:uG (k:Int) w bS):
 gJ O prog Post 18 #[br,bS,.agg #[.I W,.I am]] M w 3 (λu _ w'=>wB 2 (xE bh bu jE iW k) w' u/\cS M w w'):=by
 have q:=A.hS;have p:=B.hS;have l:∀{t:List aI}{S:Nat},0<t.length->Full (iA t 0 S):=λh0 r b=>by obtain⟨i,hi,rfl⟩:=zZ b;exact⟨Ab,by simpa using h0⟩
 refine avI (ns:=KW k) (ts:=[bh,bu]) (eH:=[iA bh 0 jE,iA bu 0 iW]) (full:=xE bh bu jE iW k) o m (aw1 n) U (by simp[KW]) (λx a=>?_) (λr b=>?_) (λj iI x c a args M' w' d hk=>?_) (λiI c args M' w' d hk=>?_)
 .simp at a;rcases a with rfl|rfl
  .exact⟨Hp,l A.h0⟩
  .exact⟨Hp,l B.h0⟩
 .have:=VJ A B hl b;have:=A.h0;omega
 .match j with|0=>cases c;cases a;exact wO (j:=0) (ts:=[bh,bu]) (t:=bh) d (hk.aZ ⟨U,U,U,NE⟩) U A.h0 AX f e h g A.hS A.il A.c6|1=>cases c;cases a;exact wO (j:=1) (ts:=[bh,bu]) (t:=bu) d (hk.aZ ⟨U,U,U,NE⟩) U B.h0 AX f e h g B.hS B.il B.c6|j+2=>simp at a
 .cases c;refine avB (i:=0) (j:=1) (aE:=[k]) (on:=[k]) (D:=[iA bh 0 jE,iA bu 0 iW]) (rs:=iA bh 0 jE) (qr:=iA bu 0 iW) d (hk.aZ ⟨U,U,U,NE⟩) U U (λr b x a=>?_) Ab (aw2 A B hl) f e h g Hp Hp;obtain⟨i,hi,rfl⟩:=zZ b;simp at a;subst a;simpa using B.key
end
end
end bc
namespace ej
open RowKit az bX cu bc
abbrev fJ:=Int×Int×Int×Int
def dp(rs:List fJ):List aI:=
 [⟨1,0,rs.map λr=>lO r.1,[],rs.map λr=>jl r.1⟩,⟨1,0,rs.map λr=>gq r.2.1,[],rs.map λr=>jl r.2.1⟩,⟨2,2,rs.map λr=>gq r.2.2.1,[],rs.map λr=>jl r.2.2.1⟩,⟨3,0,[],rs.map λr=>nz r.2.2.2,rs.map λr=>jl r.2.2.2⟩]
def tm(op a:Int):Cb:=⟨op,a,0,⟨#[]⟩⟩
def v0(r:fJ):cZ:=if jl r.1 then sR else⟨false,lO r.1,0,jc⟩
def v1(r:fJ):cZ:=if jl r.2.1 then sR else⟨false,gq r.2.1,0,jc⟩
def v2(r:fJ):cZ:=if jl r.2.2.1 then sR else⟨false,gq r.2.2.1,2,jc⟩
def v3(r:fJ):cZ:=if jl r.2.2.2 then sR else⟨false,0,0,nz r.2.2.2⟩
theorem KY(c:Int):(nz c).size<=2:=by
 unfold nz;split
 .decide
 .have:=uB c (n:=13) AX;obtain⟨k,hk,b⟩:∃k:Nat,k<13/\(l_ c 13).toNat=k:=AF;rw[b];have a:k=0\/k=1\/k=2\/k=3\/k=4\/k=5\/k=6\/k=7\/k=8\/k=9\/k=10\/k=11\/k=12:=AX;rcases a with rfl|rfl|rfl|rfl|rfl|rfl|rfl|rfl|rfl|rfl|rfl|rfl|rfl<;>decide
def aw4(rs:List fJ)(h:rs.length<=40):mH (dp rs)=true:=by
 have ht:sN (rs.map λr=>nz r.2.2.2)=true:=by grind[sN,KY]
 have h0:sN []=true:=rfl;simp[mH,FF,dp,uT,IA,Iz,Mf,h0,ht,h]
def rr(rs:List fJ){i:Nat}(h:i<rs.length):∀c∈dp rs,wG i c:=by
 intro c a;simp[dp]at a;rcases a with rfl|rfl|rfl|rfl
 .exact⟨AF,AF,AF,AF⟩
 .exact⟨AF,AF,AF,AF⟩
 .exact⟨AF,AF,AF,AF⟩
 .refine⟨AF,AF,AF,λs hs=>?_⟩;grind[KY]
end ej
namespace bc
open Conc ConcM RowKit az bo cF c3 bX cu ej
variable{bS br:Value}
section
variable{O:gW}
section
variable{N:Nat}{K:bJ}{o:Oper}{x:uap}{t:List aI}
def q7(a:o.op=.extract x 0)(b:bl K x (EN t)):bA (ae prog true) N K o (mD t):=dM b λev w h=>by obtain⟨v,e,h⟩:=h;refine⟨.agg #[v],w,?_,⟨v,U,h⟩,vaa _ _⟩;clear h;cases o;simp only at a;subst a;go_simp
def qY(a:o.op=.extract x 1)(b:bl K x (EN t)):bA (ae prog true) N K o (bd 0):=dM b λev w h=>by obtain⟨v,e,h⟩:=h;refine⟨.I 0,w,?_,U,vaa _ _⟩;clear h;cases o;simp only at a;subst a;go_simp
def qV(a:o.op=.extract x 2)(b:bl K x (EN t)):bA (ae prog true) N K o EO:=dM b λev w h=>by obtain⟨v,e,h⟩:=h;refine⟨sx,w,?_,U,vaa _ _⟩;clear h;cases o;simp only at a;subst a;go_simp
end
def qS(F:Func):Code:=.seq (.region 0 (ay F 0) false) (.seq (.region 1 (ay F 1) false) .ret)
theorem qP:Tryz.f8.body=some (qS Tryz.f8):=by kernel_rfl
def axc:∃o ats,(ay Tryz.f8 1)[4]?=some o/\o.op=.call {callee:=.value (.func 15),args:=#[.tmp 11,.tmp 12,.tmp 13,.tmp 14,.const (.I 0),.const (.I 9223372036854775807)],argTypes:=ats}/\o.guard=none/\o.dst=some 15:=⟨_,_,U,U,U,U⟩
def qL:∃b o2 a,((ay Tryz.f8 1)[8]?=some b/\b.op=.store 27 (.tmp 8) (.tmp 16)/\b.guard=none/\b.dst=none)/\((ay Tryz.f8 1)[8+1]?=some o2/\o2.op=.assign (.tmp 17)/\o2.guard=none/\o2.dst=some 9)/\(ay Tryz.f8 1)[8+2]?=some a/\a.op=.store 45 (.tmp 10) (.tmp 18)/\a.guard=none/\a.dst=none:=⟨_,_,_,⟨U,U,U,U⟩,⟨U,U,U,U⟩,U,U,U,U⟩
def qH{g6 g7 Fr:a5}(j:Fr.ok=λ_=>True){W am d:Nat}{w:aL}{Post:uab}{M:c7}(h:∀n,g6.ok n)(g:∀n,g7.ok n)(D:aM (b9 M) #[br,bS] #[br,bS])(t:g6.R w br)(y:g7.R w bS)(J:∀M w br bS,aM (b9 M) #[br,bS] #[br,bS]->g6.R w br->g7.R w bS->gJ O prog Post 15 #[br,bS,.I W,.I am,.I 0,.I 9223372036854775807] M w d (λu _ w'=>Fr.R w' u/\cS M w w'))(r:∀(n0:Nat) a c,a.defers=[]->n0<=c.heap.size->af 19 (up (a3 [(8,me n0 27 1),(10,me n0 45 2),(11,g6),(12,g7),(13,bd W),(14,bd am)]) 15 Fr) a c->sg (ae prog true) Tryz.f8 (.R (ay Tryz.f8 1) (List.range' 5 6)::[.code .ret]) (λv w1=>Fr.R w1 v/\Below n0 c w1) a c):
 gJ O prog Post 8 #[br,bS,.I W,.I am] M w d (λu _ w'=>Fr.R w' u/\cS M w w'):=by
 obtain⟨o,ats,C⟩:=axc;refine O1 (N:=19) (rest:=List.range' 5 6) (l0:=[(0,g6),(1,g7),(2,bd W),(3,bd am),(18,pp)]) (l1:=[(8,me w.heap.size 27 1),(10,me w.heap.size 45 2),(11,g6),(12,g7),(13,bd W),(14,bd am)]) (dS:=Fr) (Fr:=Fr) qn func8 AQ qP ?_ ?_ ⟨h _,g _,NE,NE,NE,NE⟩ ⟨U,U,h _,g _,NE,NE,NE⟩ (by rw[j];trivial) (by rw[j];trivial) AQ (ks:=[.code .ret]) AQ C AU func15 Ao r7 (λa c hd hn hk=>?_) (λa E w1 Shun Q hk k=>?_) (λa c hd hn hk=>r _ a c hd hn hk)
 .exact aM.append (a:=#[br,bS]) (b:=#[.I W,.I am]) D (auW _ _ _)
 .exact ga (v:=br) LN t<|ga (v:=bS) LN y<|ga (v:=.I W) LN U<|ga (v:=.I am) LN U<|ga (v:=undef) (by simp[Tryz.f8]) U<|Hk (by simp[Tryz.f8])
 .obtain⟨u,I,B⟩:=hk.has 18 _ U;have hk:=ga (F:=qo w.heap.size pp) I ⟨hn,B⟩ hk;unfold qS;refine bq ?_;rw[fj (ay Tryz.f8 0)];refine c5 hk (ao U (sJ (s:=18) U U)<|ao U (dX (F:=bd 0) U Jx)<|ao U (sz (s:=18) U U)<|rfl) λa1 w1 A d1 b1=>bq (uq ?_);rw[fj (ay Tryz.f8 1)];exact(show bO _ (.R _ (List.range' 0 (4+7))::_) _ _ _ _ from sw A (ao U Jc<|ao U Jc<|ao U Jc<|ao U Jc<|rfl) AU λP K z H b2=>lp ⟨H.trans (d1.trans hd),z.aZ ⟨U,U,U,U,U,U,NE⟩,(b1.trans (b2.mono b1.size)).mono hn⟩)
 .obtain⟨v1,f,r1⟩:=hk.has 11 _ U;obtain⟨v2,e,m⟩:=hk.has 12 _ U;obtain⟨v3,q,rfl⟩:=hk.has 13 _ U;obtain⟨L,p,rfl⟩:=hk.has 14 _ U;rw[show(#[Operand.tmp 11,.tmp 12,.tmp 13,.tmp 14,.const (.I 0),.const (.I 9223372036854775807)].map a.eval)=#[v1,v2,.I W,.I am,.I 0,.I 9223372036854775807]from by simp[Act.eval,f,e,q,p]];exact J E w1 v1 v2 (oK (l:=[v1,v2]) λx i=>by
   simp at i;rcases i with rfl|rfl
   .exact k.get _ _ _ f f
   .exact k.get _ _ _ e e) r1 m
def axd{g6 g7:a5}{W am d:Nat}{b:List aI}{w:aL}{Post:uab}{M:c7}(g:∀n,g6.ok n)(e:∀n,g7.ok n)(p:aM (b9 M) #[br,bS] #[br,bS])(k:g6.R w br)(l:g7.R w bS)(z:∀M w br bS,aM (b9 M) #[br,bS] #[br,bS]->g6.R w br->g7.R w bS->gJ O prog Post 15 #[br,bS,.I W,.I am,.I 0,.I 9223372036854775807] M w d (λu _ w'=>BA b w' u/\cS M w w')):
 gJ O prog Post 8 #[br,bS,.I W,.I am] M w d (λu _ w'=>BA b w' u/\cS M w w'):=by
 refine qH (Fr:=EN b) U g e p k l z λn0 a B hd hn hk=>?_;refine yK (ks':=[.R (ay Tryz.f8 1) (List.range' 8 3),.code .ret]) ?_;rw[fj (ay Tryz.f8 1)];refine(show bO _ (.R _ (List.range' 5 (3+3))::_) _ _ _ _ from sw hk (ao U (q7 U U)<|ao U (qY U U)<|ao U (qV U U)<|rfl) AU λa1 w1 m d1 b1=>lp λf cs o=>?_);obtain⟨v,c,fr,⟨x,t⟩,j,h⟩:=r_ (F:=Tryz.f8) (ks:=[]) (i:=8) (xa:=8) (sa:=16) (xi:=9) (BD:=10) (sb:=18) (y:=.tmp 17) m (d1.trans hd) ⟨U,U,U,U⟩ U qL AU (λtmps w ba A bE s r q dw dI=>by simp[results,results8,go_sem,sx,s,r,q,dw.rules.1,dI.rules.1]) f cs o;exact⟨v,c,fr,⟨x,(b1.mono hn).trans t⟩,j,h⟩
end
section
variable{n0:Nat}
def VP(t:Cb):List Value:=[.I t.op,.I t.a,.I t.v,.string t.s]
def VQ{ρ:Ren}{w w':aL}(d:yL n0 ρ w w'){b c:Nat}(r:ρ.rel b c){l:uad}{T:uaa}(h:ah w b l.toArray T):∃a,ah w' c a.toArray T/\cL (ar ρ) l a:=by obtain⟨j,e,n⟩:=d.types _ _ _ _ _ r h;obtain⟨a⟩:=j;refine⟨a,e,To AF λi v k hv f=>?_⟩;obtain⟨x,g,m⟩:=d.cells.cell ⟨b,i,none⟩ ⟨c,i,none⟩ v ⟨r,U,U⟩ ((h.rules.1 i).trans AF);rw[(ah.rules (show ah w' c a.toArray T from e)).1 i]at g;grind
theorem follows:prog.follows .rangeFuncRecover=true:=by decide+kernel
end
def cY(t:List aI):a5:=⟨Hu 0 t,(O4 0 t).h8,λ_=>True,λn _ ρ w w' v v' hc hv h=>by
 have:=Vr (n0:=0) t ρ w w' v v' ⟨hc.cells,hc.types,λ_ _ _ _=>vav _,hc.inj⟩ hv h
 grind⟩
def azM(t:Cb):∀x∈VP t,zL x:=by
 intro x a;simp[VP]at a;rcases a with rfl|rfl|rfl|rfl
 .exact .int _ _
 .exact .int _ _
 .exact .int _ _
 .exact .string _
def BM(t:Cb):a5:=KA (VP t) (azM t)
def sA(x y:Int):a5:=eY xA (x,y)
variable{m n:Int}
section
variable{N n0:Nat}{K:bJ}{o:Oper}{F:a5}{x y:uap}
def azN(a:o.op=.fieldAddr 24 x 0)(c:bl K x (sA m n)):bA (ae prog true) N K o (eY ip m):=dM c λev w h=>by obtain⟨b,f,e,h0,d⟩:=h;exact⟨.P b f,w,A7,⟨b,f,U,h0⟩,vaa _ _⟩
def azO(a:o.op=.fieldAddr 24 x 1)(c:bl K x (sA m n)):bA (ae prog true) N K o (eY ip n):=dM c λev w h=>by obtain⟨b,f,e,h0,d⟩:=h;exact⟨.P b (f+1),w,A7,⟨b,f+1,U,d⟩,vaa _ _⟩
end
variable{v:Value}
section
variable{N:Nat}{K:bJ}{o:Oper}{F:a5}{x y z:uap}{ap:Type}{T T':uaa}
def PM{t:List aI}{w:aL}(h:(cY t).R w v):∃b,v=.P b 0/\∃bE,w.cell? (.a b 0)=some bE/\lJ w bE t:=by obtain⟨b,bE,rfl,-,c,a⟩:=h;exact⟨b,U,bE,(c.rules.1 0).trans U,a⟩
def HK{t:List aI}(a:o.op=.fieldAddr 27 x 0)(c:bl K x (cY t)):bA (ae prog true) N K o (eY (Hc 5 oa) t):=dM c λev w h=>by obtain⟨b,e,bE,f,d⟩:=PM h;exact⟨.P b 0,w,A7,⟨b,0,U,bE,f,d.fz⟩,vaa _ _⟩
def HL{t:List aI}(a:o.op=.load 27 x)(c:bl K x (cY t)):bA (ae prog true) N K o (mD t):=dM c λev w h=>by obtain⟨b,e,bE,f,d⟩:=PM h;exact⟨.agg #[bE],w,A7,⟨bE,U,d⟩,vaa _ _⟩
end
def azU(c:aI)(w:aL)(v:Value):Prop:=∃be vs aV,v=.agg #[.I c.kind,.I c.bV,be,vs,aV]/\tD w be vs aV c
def mK(c:aI):a5:=⟨azU c,λw w' v hb⟨be,vs,aV,e,h⟩=>⟨be,vs,aV,e,h.mono (bp.b7 hb)⟩,λ_=>True,λn _ ρ w w' v v' hc hv⟨be,vs,aV,e,h⟩=>by
 subst e
 obtain⟨l',rfl,k⟩:=ra hv
 cases k with
 |cons k1 k=>cases k with
  |cons k2 k=>cases k with
   |cons k3 k=>cases k with
    |cons k4 k=>cases k with
     |cons dn k=>
      cases k
      rw[gX k1,gX k2]
      exact⟨_,_,_,U,az.a0.carry wT hc.cells k3 h.fy,az.a0.carry M6 hc.cells k4 h.dT,az.a0.carry M5 hc.cells dn h.dt⟩⟩
section
variable{N:Nat}{K:bJ}{o o2:Oper}{F:a5}{x y z:uap}{ap:Type}{T T':uaa}
def mI{c:aI}(a:o.op=.load 36 x)(d:bl K x (eY oa c)):bA (ae prog true) N K o (mK c):=dM d λev w h=>by obtain⟨b,f,e,be,vs,aV,h0,m,l,k,j,i⟩:=h;simp only[vcc]at h0;have g:=fp h0;exact⟨.agg #[.I c.kind,.I c.bV,be,vs,aV],w,A7,⟨be,vs,aV,U,i⟩,vaa _ _⟩
def mz{t:List aI}(b:o.op=.box 27 x)(f:bl K x (mD t)):bA (ae prog true) N K o (cY t):=dM f λev w h=>by obtain⟨bE,e,a⟩:=h;obtain⟨⟨g,i,rfl,-,-⟩,-⟩:=id a;have c:cC w (w.alloc (.cells #[.slice g t.length i] 27)):=(vaa _ w).alloc Jb _;have d:Hid _:=a;clear a;exact⟨.P w.heap.size 0,_,by cases o;simp only at b;subst b;go_simp,⟨w.heap.size,_,U,vav _,ah.new _ _ _,lJ.kept (zX c) d.out⟩,c⟩
section
variable{ops:du}{i d s:Nat}{Q:uah}{rest:e8}{a:Act}{w:aL}
def azV{t:List aI}(n:ops[i]?=some o)(m:ops[i+1]?=some o2)(e:o.op=.alloc 27)(c:o2.op=.store 27 (.tmp d) (.tmp s))(l:K s=some (mD t))(hk:af N K a w)(hd:o.dst=some d)(g:o2.dst=none)(g1:o.guard=none)(p:o2.guard=none)(a4:d<N)(f:d≠s)(k:∀a' w1,af N (up K d (cY t)) a' w1->a'.defers=a.defers->cC w w1->wpOps (ae prog true) ops Q rest a' w1):wpOps (ae prog true) ops Q (i::(i+1)::rest) a w:=by
 obtain⟨v,r,bE,rfl,h⟩:=hk.has s _ l;obtain⟨⟨x,y,rfl,-,-⟩,-⟩:=id h;have b:cC w (w.alloc (.cells #[.slice x t.length y] 27)):=(vaa _ w).alloc Jb _;have j:Hid _:=h;clear h;refine OG (F:=cY t) (ED:=w.alloc (.cells #[.N] 27)) n m g1 p hd g a4 f hk r (λev=>?_) (λev A z=>?_) b ⟨w.heap.size,_,U,vav _,ah.new _ _ _,lJ.kept (zX b) j.out⟩ λa' u q=>k a' _ u q b
 .cases o;simp only at e;subst e;go_simp
 .cases o2;simp only at c;subst c;go_simp
def mf{c:aI}(u:ops[i]?=some o)(t:ops[i+1]?=some o2)(l:o.op=.alloc 36)(e:o2.op=.store 36 (.tmp d) (.tmp s))(r:K s=some (mK c))(hk:af N K a w)(hd:o.dst=some d)(p:o2.dst=none)(g1:o.guard=none)(x:o2.guard=none)(a4:d<N)(n:d≠s)(k:∀a' w1,af N (up K d (eY oa c)) a' w1->a'.defers=a.defers->cC w w1->wpOps (ae prog true) ops Q rest a' w1):wpOps (ae prog true) ops Q (i::(i+1)::rest) a w:=by
 obtain⟨v,z,be,vs,aV,rfl,h⟩:=hk.has s _ r;obtain⟨j,ci,g,f,an,m,rfl,rfl,rfl⟩:=h.shape;have b:cC w (w.alloc (.cells #[.I c.kind,.I c.bV,.slice j c.fy.length ci,.slice g c.dT.length f,.slice an c.dt.length m] 36)):=(vaa _ w).alloc Jb _;have cW:=ah.new w #[.I c.kind,.I c.bV,.slice j c.fy.length ci,.slice g c.dT.length f,.slice an c.dt.length m] 36;have q:Hid _:=h;clear h;refine OG (F:=eY oa c) (ED:=w.alloc (.cells #[.I 0,.I 0,.N,.N,.N] 36)) u t g1 x hd p a4 n hk z (λev=>?_) (λev C B=>?_) b ⟨w.heap.size,0,U,_,_,_,(cW.rules.1 _).trans U,(cW.rules.1 _).trans U,(cW.rules.1 _).trans U,(cW.rules.1 _).trans U,(cW.rules.1 _).trans U,q.out.mono (bp.b7 b)⟩ λa' A y=>k a' _ A y b
 .cases o;simp only at l;subst l;go_simp
 .cases o2;simp only at e;subst e;go_simp
end
end
def lW{P:cf}{f:uaj}{fn:Func}{c:Code}{args:df}{w:aL}{R:uab}{ks:fC}(a:P.funcs[f]?=some fn)(g:fn.body=some c)(h:bO P [.code c] (.code .ret::ks) (λa1 w1=>a1.defers=[]/\∃v,(results fn a1.tmps).run P w1=.ok v w1/\R v w1) ⟨args++Array.replicate (fn.ntmps-args.size) undef,[]⟩ w):Calls P f args w λe w'=>∃v,e=.returned v/\R v w':=λcs=>by obtain⟨a1,w1,⟨hd,v,d,j⟩,i⟩:=h (base f) cs;have b:=Steps.trans i (.one step_ret);rw[<-vdv a g]at b;exact⟨.returned v,w1,_,⟨v,U,j⟩,b,U,U,hd,U,fn,a,d⟩
def tt(b:Nat)(cs:df)(T:uaa):a5:=⟨λw u=>u=.P b 0/\ah w b cs T,λ_ _ _ hb h=>⟨h.1,h.2.call hb⟩,λ_=>False,λ_ h=>h.elim⟩
def PN(b k:Nat)(v:Value):a5:=⟨λw u=>u=.P b k/\w.cell? (.a b k)=some v,λ_ _ _ hb h=>⟨h.1,bp.b7 hb _ _ _ h.2⟩,λ_=>False,λ_ h=>h.elim⟩
def z2(l:uad):a5:=⟨λw u=>∃g c,u=.S g 0 1 c/\∀j x,l[j]?=some x->w.cell? (.a g j)=some x,λ_ _ _ hb⟨g,c,h1,h2⟩=>⟨g,c,h1,λj x h=>bp.b7 hb _ _ _ (h2 j x h)⟩,λ_=>False,λ_ h=>h.elim⟩
section
variable{N:Nat}{K:bJ}{o:Oper}{F:a5}{x y z:uap}{ap:Type}{T T':uaa}{P:cf}
def qt{t:List aI}(a:o.op=.fieldAddr 27 x 0)(c:bl K x (sr v (cY t))):bA (ae prog true) N K o (eY (Hc 5 oa) t):=dM c λev w h=>by obtain⟨b,e,bE,f,d⟩:=PM h.2;exact⟨.P b 0,w,A7,⟨b,0,U,bE,f,d.fz⟩,vaa _ _⟩
def PO{b k:Nat}{cs:df}(a:o.op=.fieldAddr 36 x k)(c:bl K x (tt b cs 36))(hk:k<5)(hv:cs[k]?=some v):bA (ae prog true) N K o (PN b k v):=dM c λev w h=>by obtain⟨e,h⟩:=h;refine⟨.P b k,w,?_,⟨U,(h.rules.1 k).trans hv⟩,vaa _ _⟩;cases o;simp only at a;subst a;have:k=0\/k=1\/k=2\/k=3\/k=4:=AX;rcases this with rfl|rfl|rfl|rfl|rfl<;>go_simp
def Wc{b:Nat}(a:o.op=.fieldAddr 27 x 0)(c:bl K x (tt b #[v] 27)):bA (ae prog true) N K o (PN b 0 v):=dM c λev w h=>by obtain⟨e,h⟩:=h;refine⟨.P b 0,w,?_,⟨U,(h.rules.1 0).trans U⟩,vaa _ _⟩;cases o;simp only at a;subst a;go_simp
def E1{b k:Nat}(a:o.op=.load T x)(c:bl K x (PN b k v))(d:T=3\/T=2\/T=9\/T=4\/T=32\/T=33\/T=34\/T=25):bA (ae prog true) N K o (ew v):=dM c λev w h=>by obtain⟨e,h⟩:=h;refine⟨v,w,?_,U,vaa _ _⟩;cases o;simp only at a;subst a;rcases d with rfl|rfl|rfl|rfl|rfl|rfl|rfl|rfl<;>go_simp
def azX{b k:Nat}(c:o.op=.load 3 x)(a:bl K x (PN b k (.I n))):bA (ae prog true) N K o (bd n):=E1 c a (.inl U)
def azY(a:o.op=.buildSlice 32 1 #[(0,x)])(b:bl K x (bd n)):bA (ae prog true) N K o (z2 [.I n]):=dM b λev w h=>by
 have e:ev x=.I n:=h;refine⟨.S w.heap.size 0 1 1,w.alloc (.cells #[.I n] 2),?_,⟨w.heap.size,1,U,λj v c=>?_⟩,(vaa _ w).alloc Jb _⟩
 .cases o;simp only at a;subst a;go_simp
 simp_all
def azZ{n:ByteArray}(a:o.op=.buildSlice 33 1 #[(0,x)])(b:bl K x (GA n)):bA (ae prog true) N K o (z2 [.string n]):=dM b λev w h=>by
 have e:ev x=.string n:=h;refine⟨.S w.heap.size 0 1 1,w.alloc (.cells #[.string n] 9),?_,⟨w.heap.size,1,U,λj v c=>?_⟩,(vaa _ w).alloc Jb _⟩
 .cases o;simp only at a;subst a;go_simp
 simp_all
def az0{n:Bool}(a:o.op=.buildSlice 34 1 #[(0,x)])(b:bl K x (eN n)):bA (ae prog true) N K o (z2 [.bool n]):=dM b λev w h=>by
 have e:ev x=.bool n:=h;refine⟨.S w.heap.size 0 1 1,w.alloc (.cells #[.bool n] 4),?_,⟨w.heap.size,1,U,λj v c=>?_⟩,(vaa _ w).alloc Jb _⟩
 .cases o;simp only at a;subst a;go_simp
 simp_all
end
def Wd{P:cf}{t e:uaa}{z:Value}{size bytes:Nat}(E:pN P t e z size bytes){ops:du}{i d:Nat}{o:Oper}{a:Act}{w:aL}{x y:uap}(s:ops[i]?=some o)(H:o.guard=none)(hd:o.dst=some d)(f:o.op=.call {callee:=.builtin .append,args:=#[x,y],argTypes:=#[t,t]}){B n:Nat}{xs news:uad}(q:a.eval x=v)(I:w.ownsRow B e size v n xs){m g c:Nat}(p:a.eval y=.S g 0 m c)(hl:news.length=m*size)(K:∀j u,news[j]?=some u->w.cell? (.a g j)=some u)(F:∀u∈news,u.oneCell'=true)(M:n+m<=1000000)(h:bytes<=1000)(A:B<=w.heap.size){Q:uaf}(k:∀b w',w'.ownsRow B e size b (n+m) (xs++news)->w.grownBy w' v.ownBlock->(b.ownBlock=v.ownBlock\/b.ownBlock=some w.heap.size)->Q (a.put (some d) b) w'):wpOps P ops (kj Q) [i] a w:=by
 obtain⟨Hi,hi,l,hsz,L⟩:=vci E.hi;obtain⟨b,w',r,D,C,O,J⟩:=run_append_own_at (P:=P) w B t o.type e Hi z size bytes E.ht hi l hsz L E.Mc E.hsz v n xs I ⟨g,0,none⟩ m c news hl (λj u N=>by
  grind[Addr.add]) F (by simp[maxLen];omega) (by
   have:(n+m)*bytes<=1000000*1000:=Nat.mul_le_mul M h;omega) A
 refine nu s H hd (v:=b) (w1:=w') ?_ (k b w' D C J);simp only[execOp,f,resolve,invoke,builtin,q,p,r,Result.andThen,vdt,Sem.run_pure,List.map_toArray,vcy,veo]
theorem az1{w:aL}{a b:Nat}{f g:df}{d c:uaa}(j:ah w a f d)(i:ah w b g c)(h:d≠c):a≠b:=λe=>by simp_all[ah]
theorem Le{w:aL}{B:Nat}{e:uaa}{size n:Nat}{xs:uad}(h:w.ownsRow B e size v n xs){g:Nat}(hg:v.ownBlock=some g):∃c,ah w g c e:=by
 obtain⟨-,⟨hv,-⟩|⟨g',cap,bf,hv,-,a,-⟩⟩:=h
 .rw[hv]at hg;cases hg
 .rw[hv]at hg;cases hg;exact⟨bf,a⟩
theorem PP{w:aL}{B:Nat}{e T:uaa}{size n:Nat}{xs:uad}(h:w.ownsRow B e size v n xs){b:Nat}{cs:df}(c:ah w b cs T)(a:e≠T):v.ownBlock≠some b:=λhg=>by grind[Le,az1]
def HN{w w1:aL}{B d:Nat}{e a:uaa}{size n size' b:Nat}{u:Value}{xs xs':uad}(h:w.ownsRow B e size v n xs)(f:w.ownsRow d a size' u b xs')(c:e≠a)(hg:w.grownBy w1 u.ownBlock):w1.ownsRow B e size v n xs:=by refine h.kept hg ?_;cases hv:v.ownBlock with|none=>grind|some g=>grind[Le,PP]
theorem uJ{w:aL}{B:Nat}{e T:uaa}{size n:Nat}{xs:uad}(h:w.ownsRow B e size v n xs){b:Nat}{cs:df}(j:ah w b cs T)(c:e≠T)(f:Nat)(x:Value):(w.setCell ⟨b,f,none⟩ x).ownsRow B e size v n xs:=by
 obtain⟨hl,⟨hv,hn⟩|⟨g,cap,bf,hv,hg,i,a⟩⟩:=id h
 .exact⟨hl,.inl ⟨hv,hn⟩⟩
 .refine⟨hl,.inr ⟨g,cap,bf,hv,hg,?_,a⟩⟩;have d:g≠b:=λe=>by simp_all[ah]
  grind[Below.heap_setCell]
def HO{w w1:aL}{B:Nat}{e:uaa}{size n:Nat}{xs:uad}(h:w.ownsRow B e size v n xs)(c:cC w w1):w1.ownsRow B e size v n xs:=by
 obtain⟨hl,⟨hv,hn⟩|⟨g,cap,bf,hv,hg,a,b⟩⟩:=id h
 .exact⟨hl,.inl ⟨hv,hn⟩⟩
 .exact⟨hl,.inr ⟨g,cap,bf,hv,hg,(c.block g (ah.lt (show ah w g bf e from a))).trans a,b⟩⟩
def E2{w w1:aL}{B n:Nat}{e:uaa}{size:Nat}{xs:uad}(h:w.ownsRow B e size v n xs)(hg:w.grownBy w1 v.ownBlock)(c:B<=w.heap.size):Below B w w1:=
 ⟨hg.os,hg.tape,hg.output,hg.size,λb a=>hg.block b AX λe=>by have:=(h.lt b e.symm).1;omega⟩
def PQ{P:cf}{t e z3:uaa}{z:Value}{size bytes:Nat}(E:pN P t e z size bytes){ops:du}{N i d1 h p kt sb b f:Nat}{o o2 m:Oper}{K:bJ}{a:Act}{w:aL}{cs:df}{rest:e8}{Q:uah}(x:ops[i]?=some o)(r:ops[i+1]?=some o2)(T:ops[i+2]?=some m)(g1:o.guard=none)(U:o2.guard=none)(V:m.guard=none)(H:o.dst=some d1)(M:o2.dst=some h)(J:m.dst=none)(q:o.op=.call {callee:=.builtin .append,args:=#[.tmp p,.tmp kt],argTypes:=#[t,t]})(F:∀(ev:uak) w,ev (.tmp sb)=.P b 0->(execOp ev o2).run P w=.ok (.value (.P b f)) w)(Fg:∀(ev:uak) w bP n c,ah w b cs z3->ev (.tmp h)=.P b f->ev (.tmp d1)=.slice bP n c->(execOp ev m).run P w=.ok .skip (w.setCell ⟨b,f,none⟩ (.slice bP n c)))(hs:d1<N/\h<N/\d1≠h/\d1≠sb)(hk:af N K a w){news:uad}(X:K p=some (ew v))(W:K kt=some (z2 news))(B1:K sb=some (tt b cs z3)){B n:Nat}{xs:uad}(Y:w.ownsRow B e size v n xs)(hl:news.length=size)(L:∀u∈news,u.oneCell'=true)(hn:n+1<=1000000)(O:bytes<=1000)(S:B<=w.heap.size)(hT:e≠z3)(k:∀a' w1 d,w1.ownsRow B e size d (n+1) (xs++news)->w.grownBy w1 v.ownBlock->ah w1 b cs z3->(∀s,s≠d1->s≠h->a'.tmps[s]?=a.tmps[s]?)->a'.tmps.size=N->a'.defers=a.defers->wpOps P ops Q rest a' (w1.setCell ⟨b,f,none⟩ d)):wpOps P ops Q (i::(i+1)::(i+2)::rest) a w:=by
 obtain⟨v0,bj,rfl⟩:=hk.has p _ X;obtain⟨u2,bm,g,c,rfl,MF⟩:=hk.has kt _ W;obtain⟨u3,I,rfl,Z⟩:=hk.has sb _ B1;refine h7 (R:=λa1 w1=>∃d,a1=a.put (some d1) d/\w1.ownsRow B e size d (n+1) (xs++news)/\w.grownBy w1 v0.ownBlock) (Wd E x g1 H q (cB bj) Y (cB bm) AX MF L hn O S λd w' r1 l r3=>⟨d,rfl,r1,l⟩) ?_;rintro a1 w1 ⟨d,rfl,r1,l⟩;have D:ah w1 b cs z3:=ah.grown Z l λg' na e=>by grind[PP]
 obtain⟨bP,cc,rfl⟩:=gQ r1;refine h7 (R:=λA j=>A=(a.put (some d1) (.slice bP (n+1) cc)).put (some h) (.P b f)/\j=w1) (nu r U M (F _ _ (cB ((dF hs.2.2.2).trans I))) ⟨rfl,rfl⟩) ?_;rintro A j ⟨rfl,rfl⟩;refine h7 (R:=λC y=>C=(a.put (some d1) (.slice bP (n+1) cc)).put (some h) (.P b f)/\y=j.setCell ⟨b,f,none⟩ (.slice bP (n+1) cc)) (qf T V J (Fg _ _ _ _ _ D (cB (jz (by rw[fo,hk.size];grind))) (cB ((dF (Ne.symm hs.2.2.1)).trans (jz (by rw[hk.size];grind))))) ⟨rfl,rfl⟩) ?_;rintro C y ⟨rfl,rfl⟩;exact k _ j _ r1 l D (λs x r=>(dF (Ne.symm r)).trans (dF (Ne.symm x))) (by rw[fo,fo];exact hk.size) Gm
def rA(l:du){l':du}(e:l=l':=by simp only[ay,qs,Tryz.f10,vae,Nat.reduceBEq,vai,↓reduceIte];exact rfl):l=l':=e
def Lf(F:Func):Code:=(.seq (.seq (.region 11 (ay F 11) false) (.cond (.tmp 76) .skip (.exit 2))) (.seq (.block 3 (.seq (.region 13 (ay F 13) true) (.cond (.tmp 127) (.seq (.region 14 (ay F 14) false) .ret) .skip))) (.region 12 (ay F 12) false)))
def Lg(F:Func):Code:=(.seq (.seq (.region 4 (ay F 4) false) (.cond (.tmp 20) .skip (.exit 0))) (.seq (.block 1 (.seq (.region 6 (ay F 6) false) (.seq (.region 7 (ay F 7) false) (.seq (.seq (.region 8 (ay F 8) false) (.cond (.tmp 71) (.seq (.region 9 (ay F 9) false) .ret) .skip)) (.seq (.region 10 (ay F 10) false) (.block 2 (.loop (Lf F)))))))) (.region 5 (ay F 5) false)))
theorem az2:Tryz.f10.body=some (.seq (.region 0 (ay Tryz.f10 0) false) (.seq (.seq (.region 1 (ay Tryz.f10 1) false) (.cond (.tmp 15) (.seq (.region 2 (ay Tryz.f10 2) false) .ret) .skip)) (.seq (.seq (.region 3 (ay Tryz.f10 3) false) (.block 0 (.loop (Lg Tryz.f10)))) (.seq (.region 15 (ay Tryz.f10 15) false) .ret)))):=by kernel_rfl
def BO(c:aI):Prop:=(c.fy.length=c.dt.length/\c.dT=[])\/(c.dT.length=c.dt.length/\c.fy=[])
def z4:(ae prog true).follows .mixedOrders=true:=by decide+kernel
def We(t:List aI)(c:aI)(i k:Nat):bJ:=a3 [(2,cY t),(3,cY t),(5,bd k),(6,eY oa c),(7,eY oa c),(8,bd i)]
def lR(l:List (Nat×a5))(s:Nat)(F:a5):∀i G,up (a3 l) s F i=some G->a3 ((s,F)::l) i=some G:=λi G e=>e
def ly{N:Nat}{K:bJ}{a:Act}{w:aL}{s:Nat}{b:Bool}(h:af N K a w)(hs:K s=some (eN b)):a.eval (.tmp s)=.bool b:=by obtain⟨v,d,c⟩:=h.has s _ hs;cases c;exact cB d
def az3(t:List aI)(c:aI)(j:BO c)(i k:Nat)(hi:i<c.dt.length){ks ks':fC}{Q:uaf}{a:Act}{w:aL}(hk:af 128 (We t c i k) a w)(kk:∀a' w',af 128 (up (We t c i k) 127 (eN false)) a' w'->a'.defers=a.defers->cC w w'->bO (ae prog true) ks ks' Q a' w'):bO (ae prog true) (.code (.region 13 (ay Tryz.f10 13) true)::ks) ks' Q a w:=by
 rw[rA (ay Tryz.f10 13)];have dN:∀{K':bJ},Ba K' [(127,eN false),(2,cY t),(3,cY t),(5,bd k),(6,eY oa c),(7,eY oa c),(8,bd i)]->∀a' w',af 128 K' a' w'->af 128 (up (We t c i k) 127 (eN false)) a' w':=λh a' w' hk=>(hk.aZ h).sub (lR _ _ _);rcases j with⟨e,d⟩|⟨e,d⟩
 .have b:i<c.fy.length:=by omega
  have g:c.dT.length=0:=AF;exact yS (m:=49) hk (dq U Kl<|dq U Jr<|dq U Jc<|dq U (dQ U U U (vag hi) AU)<|dq U Ks<|dq U Kl<|dq U Jr<|dq U Jc<|dq U (dQ U U U (vag hi) AU)<|dq U Ks<|dq U (MZ U U U)<|dq U Jc<|dL U LA<|dL U Jr<|dL U Kh<|dL U (UL U U Jx AU AX)<|dL U Jc<|dL U LA<|dL U Jr<|dL U Jc<|dL U (dQ U U U (vag b) AU)<|dL U J5<|dL U LA<|dL U Jr<|dL U Jc<|dL U (dQ U U U (vag b) AU)<|dL U J5<|dL U LJ<|dL U Kk<|dq U Kk<|dq U Jc<|dL U K_<|dL U Jr<|dL U Kh<|dL U (UM U U Jx AU AX)<|dL U Jc<|gZ U<|gZ U<|gZ U<|gZ U<|gZ U<|gZ U<|gZ U<|gZ U<|gZ U<|gZ U<|gZ U<|dL U (kn (F:=eN false) U U Jx)<|dq U Kk<|rfl) U z4 AQ λa' w' e d f=>⟨U,kk a' w' (dN ⟨U,U,U,U,U,U,U,NE⟩ a' w' e) d f⟩
 .have b:i<c.dT.length:=by omega
  have g:c.fy.length=0:=AF;exact yS (m:=49) hk (dq U Kl<|dq U Jr<|dq U Jc<|dq U (dQ U U U (vag hi) AU)<|dq U Ks<|dq U Kl<|dq U Jr<|dq U Jc<|dq U (dQ U U U (vag hi) AU)<|dq U Ks<|dq U (MZ U U U)<|dq U Jc<|dL U LA<|dL U Jr<|dL U Kh<|dL U (UM U U Jx AU AX)<|dL U Jc<|gZ U<|gZ U<|gZ U<|gZ U<|gZ U<|gZ U<|gZ U<|gZ U<|gZ U<|gZ U<|gZ U<|dL U (kn (F:=eN false) U U Jx)<|dq U Kk<|dq U Jc<|dL U K_<|dL U Jr<|dL U Kh<|dL U (UL U U Jx AU AX)<|dL U Jc<|dL U K_<|dL U Jr<|dL U Jc<|dL U (dQ U U U (vag b) AU)<|dL U Lc<|dL U K_<|dL U Jr<|dL U Jc<|dL U (dQ U U U (vag b) AU)<|dL U Lc<|dL U (auI U U U)<|dL U Kk<|dq U Kk<|rfl) U z4 AQ λa' w' e d f=>⟨U,kk a' w' (dN ⟨U,U,U,U,U,U,U,NE⟩ a' w' e) d f⟩
def PR(t:List aI)(c:aI)(k:Nat):bJ:=a3 [(6,eY oa c),(7,eY oa c),(2,cY t),(3,cY t),(5,bd k)]
def az4(t:List aI)(c:aI)(k:Nat)(o:BO c)(hl:c.dt.length<9000000000000000000)(dm:aL){ks ks':fC}{Q:uaf}(kk:∀a' w',af 128 (PR t c k) a' w'->a'.defers=[]->cC dm w'->bO (ae prog true) ks ks' Q a' w'):
 ∀m i a w,i+m=c.dt.length->af 128 (up (PR t c k) 8 (bd i)) a w->a.defers=[]->cC dm w->bO (ae prog true) (.code (Lf Tryz.f10):: .inLoop (Lf Tryz.f10):: .inBlock 2::ks) ks' Q a w:=by
 intro m;induction m with|zero=>intro i a w hi hk hd d;unfold Lf;refine bq (bq ?_);rw[rA (ay Tryz.f10 11)];refine c5 hk (ao U Jc<|ao U Kl<|ao U Jr<|ao U Kh<|ao U (zP U U U AU AX)<|rfl) λa1 w1 b d1 b1=>?_;refine fI (t:=false) (ly b U) (xe (te:=ks) FA ?_);exact kk a1 w1 (b.aZ ⟨U,U,U,U,U,NE⟩) (d1.trans hd) (d.trans (b1.mono d.size))|succ m n=>intro i a w hi hk hd d;have f:(i:Int)<(c.dt.length:Int):=AX;unfold Lf;refine bq (bq ?_);rw[rA (ay Tryz.f10 11)];refine c5 hk (ao U Jc<|ao U Kl<|ao U Jr<|ao U Kh<|ao U (EC U U U AU f)<|rfl) λa1 w1 b d1 b1=>?_;refine fI (t:=true) (ly b U) (nt (bq (nr (bq ?_))));have b1:cC dm w1:=d.trans (b1.mono d.size);have b:af 128 (a3 [(2,cY t),(3,cY t),(5,bd k),(6,eY oa c),(7,eY oa c),(8,bd i)]) a1 w1:=b.aZ ⟨U,U,U,U,U,U,NE⟩;refine az3 t c o i k AX b λu j g q b2=>?_;have b2:cC dm j:=b1.trans (b2.mono b1.size);refine fI (t:=false) (ly g U) (nt (vz ?_));rw[rA (ay Tryz.f10 12)];refine c5 g Ki λr h k3 p s=>A5 ?_;have e:((i:Int)+1)=((i+1:Nat):Int):=AX;rw[e]at k3;exact n (i+1) r h AX ((k3.aZ (l:=[(8,bd ((i+1:Nat):Int)),(6,eY oa c),(7,eY oa c),(2,cY t),(3,cY t),(5,bd k)]) ⟨U,U,U,U,U,U,NE⟩).sub (lR _ _ _)) (p.trans (q.trans (d1.trans hd))) (b2.trans (s.mono b2.size))
def az5(t:List aI)(ht:t.length<9000000000000000000)(E:∀c∈t,BO c)(hn:∀c∈t,c.dt.length<9000000000000000000)(dm:aL){ks ks':fC}{Q:uaf}(kk:∀a' w',a'.tmps.size=128->a'.defers=[]->cC dm w'->bO (ae prog true) ks ks' Q a' w'):
 ∀m k a w,k+m=t.length->af 128 (a3 [(2,cY t),(3,cY t),(5,bd (k:Nat))]) a w->a.defers=[]->cC dm w->bO (ae prog true) (.code (Lg Tryz.f10):: .inLoop (Lg Tryz.f10):: .inBlock 0::ks) ks' Q a w:=by
 intro m;induction m with|zero=>intro k a w Y hk hd d;unfold Lg;refine bq (bq ?_);rw[rA (ay Tryz.f10 4)];refine c5 hk (ao rfl Jc<|ao rfl (HK rfl rfl)<|ao rfl Jr<|ao rfl Kh<|ao rfl (zP rfl rfl rfl AU AX)<|rfl) λa1 w1 b d1 b1=>?_;exact fI (t:=false) (ly b rfl) (xe (te:=ks) FA (kk a1 w1 b.size (d1.trans hd) (d.trans (b1.mono d.size))))|succ m C=>intro k a w S I hd d;have hk:k<t.length:=AX;have j:(k:Int)<(t.length:Int):=AX;unfold Lg;refine bq (bq ?_);rw[rA (ay Tryz.f10 4)];refine c5 I (ao rfl Jc<|ao rfl (HK rfl rfl)<|ao rfl Jr<|ao rfl Kh<|ao rfl (EC rfl rfl rfl AU j)<|rfl) λa1 w1 b d1 b1=>?_;refine fI (t:=true) (ly b rfl) (nt (bq (nr (bq ?_))));have b1:cC dm w1:=d.trans (b1.mono d.size);have d1:=d1.trans hd;have b:af 128 (a3 [(2,cY t),(3,cY t),(5,bd (k:Nat))]) a1 w1:=b.aZ ⟨rfl,rfl,rfl,NE⟩;rw[rA (ay Tryz.f10 6)];refine xz (m:=5) b (ao rfl (HK rfl rfl)<|ao rfl Jr<|ao rfl Jc<|ao rfl (dQ rfl rfl rfl (vag hk) AU)<|ao rfl (mI rfl rfl)<|rfl) AU λZ y B P b2=>?_;have b2:cC dm y:=b1.trans (b2.mono b1.size);refine mf (i:=5) rfl rfl rfl rfl rfl B rfl rfl rfl rfl AU AU λR o k3 O h=>n8 (bq ?_);have h:cC dm o:=b2.trans (h.mono b2.size);have k3:af 128 (a3 [(6,eY oa t[k]),(2,cY t),(3,cY t),(5,bd (k:Nat))]) R o:=k3.aZ ⟨rfl,rfl,rfl,rfl,NE⟩;rw[rA (ay Tryz.f10 7)];refine xz (m:=5) k3 (ao rfl (HK rfl rfl)<|ao rfl Jr<|ao rfl Jc<|ao rfl (dQ rfl rfl rfl (vag hk) AU)<|ao rfl (mI rfl rfl)<|rfl) AU λbC x A N bk=>?_;have bk:cC dm x:=h.trans (bk.mono h.size);refine mf (i:=5) rfl rfl rfl rfl rfl A rfl rfl rfl rfl AU AU λH dK l M bt=>n8 (bq (bq ?_));have bt:cC dm dK:=bk.trans (bt.mono bk.size);have l:af 128 (a3 [(6,eY oa t[k]),(7,eY oa t[k]),(2,cY t),(3,cY t),(5,bd (k:Nat))]) H dK:=l.aZ ⟨rfl,rfl,rfl,rfl,rfl,NE⟩;rw[rA (ay Tryz.f10 8)];refine c5 l (ao rfl (hM rfl rfl AU UJ)<|ao rfl J5<|ao rfl (hM rfl rfl AU UJ)<|ao rfl J5<|ao rfl LJ<|ao rfl Jc<|ea rfl (hM rfl rfl AU UK)<|ea rfl J5<|ea rfl (hM rfl rfl AU UK)<|ea rfl J5<|ea rfl LJ<|ao rfl Kk<|ao rfl Jc<|ea rfl Kl<|ea rfl Jr<|ea rfl Kh<|ea rfl Kl<|ea rfl Jr<|ea rfl Kh<|ea rfl LJ<|ao rfl Kk<|ao rfl Jc<|ea rfl LA<|ea rfl Jr<|ea rfl Kh<|ea rfl LA<|ea rfl Jr<|ea rfl Kh<|ea rfl LJ<|ao rfl Kk<|ao rfl Jc<|ea rfl K_<|ea rfl Jr<|ea rfl Kh<|ea rfl K_<|ea rfl Jr<|ea rfl Kh<|ea rfl LJ<|ao rfl Kk<|rfl) λD v f L g=>?_;have g:cC dm v:=bt.trans (g.mono bt.size);refine fI (t:=false) (ly f rfl) (nt (bq ?_));have f:af 128 (PR t t[k] k) D v:=f.aZ ⟨rfl,rfl,rfl,rfl,rfl,NE⟩;rw[rA (ay Tryz.f10 10)];refine c5 f (ao rfl (dX (F:=bd 0) rfl Jx)<|rfl) λs p z n cU=>nr (A4 ?_);have cU:cC dm p:=g.trans (cU.mono g.size);have n:s.defers=[]:=n.trans (L.trans (M.trans (N.trans (O.trans (P.trans d1)))));refine az4 t t[k] k (E _ (vax hk)) (hn _ (vax hk)) dm (λX W r K u=>vz ?_) _ 0 s p (vbr _) z n cU;unfold PR at r;rw[rA (ay Tryz.f10 5)];refine c5 r Ki λU T q J V=>A5 ?_;have e:((k:Int)+1)=((k+1:Nat):Int):=AX;rw[e]at q;exact C (k+1) U T AX (q.aZ ⟨rfl,rfl,rfl,NE⟩) (J.trans K) (u.trans (V.mono u.size))
def az6(t:List aI)(ht:t.length<9000000000000000000)(o:∀c∈t,BO c)(hn:∀c∈t,c.dt.length<9000000000000000000)(v1 v2:Value)(w:aL)(u:xC t w v1)(r:xC t w v2):Calls (ae prog true) 10 #[v1,v2] w λe w'=>∃v,e=.returned v/\v=.T/\cC w w':=by
 refine lW (ks:=[]) (bB (upd:=true) func10 AQ) az2 ?_;have hk:af 128 (a3 [(0,mD t),(1,mD t)]) ⟨#[v1,v2]++Array.replicate (Tryz.f10.ntmps-(#[v1,v2]:df).size) undef,[]⟩ w:=MW (l:=[v1,v2]) Ab BK λp h=>by
  simp at h;rcases h with rfl|rfl
  .exact⟨v1,U,u⟩
  .exact⟨v2,U,r⟩
 have hd:(⟨#[v1,v2]++Array.replicate (Tryz.f10.ntmps-(#[v1,v2]:df).size) undef,[]⟩:Act).defers=[]:=rfl;generalize(⟨#[v1,v2]++Array.replicate (Tryz.f10.ntmps-(#[v1,v2]:df).size) undef,[]⟩:Act)=a at hk hd;refine bq ?_;rw[rA (ay Tryz.f10 0)];refine c5 hk (ao U (mz U U)<|ao U (mz U U)<|ao U (dX (F:=eN false) U Jx)<|rfl) λa1 w1 d d1 b1=>bq (bq ?_);have d:af 128 (a3 [(2,cY t),(3,cY t)]) a1 w1:=d.aZ ⟨U,U,NE⟩;rw[rA (ay Tryz.f10 1)];refine c5 d (ao U (HK U U)<|ao U Jr<|ao U Kh<|ao U (HK U U)<|ao U Jr<|ao U Kh<|ao U LJ<|rfl) λB m b A b2=>fI (t:=false) (ly b U) (nt (bq (bq ?_)));have b:af 128 (a3 [(2,cY t),(3,cY t)]) B m:=b.aZ ⟨U,U,NE⟩;rw[rA (ay Tryz.f10 3)];refine c5 b (ao U (dX (F:=bd 0) U Jx)<|rfl) λC g k3 z f=>nr (A4 ?_);have f:cC w g:=(b1.trans (b2.mono b1.size)).trans (f.mono (b1.trans (b2.mono b1.size)).size);refine az5 t ht o hn w (λD k j y bk=>bq ?_) _ 0 C g (vbr _) (k3.aZ ⟨U,U,U,NE⟩) (z.trans (A.trans (d1.trans hd))) f;have n:af 128 (a3 []) D k:=⟨j,λs F e=>Cn⟩;rw[rA (ay Tryz.f10 15)];refine c5 n (ao U (dX (F:=eN true) U Jx)<|rfl) λI dK i x bt=>lp ⟨x.trans y,.T,?_,U,bk.trans (bt.mono bk.size)⟩;have H:=ly (s:=4) i U;obtain⟨v,E,q⟩:=i.has 4 (eN true) U;cases q;simp_all[results]
end bc
namespace ej
open RowKit az bX cu bc
variable{i:Nat}
def Nu{ap:Type}{l:List ap}(h:i<l.length)(d:ap):l[i]?.getD d=l[i]:=by simp[h]
def rowAt(t:List aI)(i:Nat):a7:=([((0+i:Nat):Int)],t.map (gz · (0+i)))
def lL(t:List aI)(S:Nat):iA t 0 S=(List.range S).map (rowAt t):=by simp[iA,rowAt]
theorem az7(rs:List fJ):eL (dp rs)=[(1,0),(1,0),(2,2),(3,0)]:=rfl
variable{c:aI}
def az8(rs:List fJ)(a:c∈dp rs)(i:Nat):(gz c i).text.size<=2:=by
 unfold gz;split
 .decide
 split
 .simp[dp]at a;rcases a with rfl|rfl|rfl|rfl
  .exact show jc.size<=2 by decide
  .exact show jc.size<=2 by decide
  .exact show jc.size<=2 by decide
  .show((rs.map λr=>nz r.2.2.2).getD i jc).size<=2;rw[ven,vbc];cases rs[i]? with|none=>decide|some r=>exact KY _
 .exact show jc.size<=2 by decide
def nC(c:aI)(want:e8):aI:=⟨c.kind,c.bV,if c.kind=3 then []else want.map λi=>c.fy.getD i 0,if c.kind=3 then want.map λi=>c.dT.getD i jc else [],want.map λi=>c.dt.getD i false⟩
def qu(t:List aI)(want:e8):List aI:=t.map (nC · want)
def xJ(c:aI)(i:Nat):Prop:=c.dt.getD i false=true->c.fy.getD i 0=0/\c.dT.getD i jc=jc
def Wh:(gz c i).dU=c.dt.getD i false:=by
 unfold gz;split
 .rename_i h;rw[h];rfl
 .rename_i h;have h:c.dt.getD i false=false:=Dd;rw[h];split<;>rfl
def az9(a:xJ c i)(b:¬c.kind=3):(gz c i).num=c.fy.getD i 0:=by
 unfold gz;rw[vbp b];split
 .rename_i h;rw[(a h).1];rfl
 .rfl
def az_(a:xJ c i)(b:c.kind=3):(gz c i).text=c.dT.getD i jc:=by
 unfold gz;rw[vbv b];split
 .rename_i h;rw[(a h).2];rfl
 .rfl
def lC(rs:List fJ):∀c∈dp rs,∀i,i<rs.length->xJ c i:=by
 intro c a i hi;simp[dp]at a;have b:nz 0=nz 0:=rfl;rcases a with rfl|rfl|rfl|rfl
 .simp[xJ,hi,lO];intro h;simp[h]
 .simp[xJ,hi,gq];intro h;simp[h]
 .simp[xJ,hi,gq];intro h;simp[h]
 .simp[xJ,hi,nz];intro h;simp[h];rfl
end ej
namespace bc
open Conc ConcM RowKit az bo cF c3 bX cu ej
def pB(l:du){l':du}(e:l=l':=by simp only[ay,qs,Tryz.f9,vae,Nat.reduceBEq,vai,↓reduceIte];exact rfl):l=l':=e
def HP(F:Func):Code:=(.seq (.seq (.region 7 (ay F 7) false) (.cond (.tmp 32) .skip (.exit 2))) (.seq (.block 3 (.seq (.region 9 (ay F 9) true) (.seq (.region 10 (ay F 10) false) (.cond (.tmp 54) (.region 11 (ay F 11) true) (.region 12 (ay F 12) true))))) (.region 8 (ay F 8) false)))
def Lh(F:Func):Code:=(.seq (.seq (.region 3 (ay F 3) false) (.cond (.tmp 13) .skip (.exit 0))) (.seq (.block 1 (.seq (.region 5 (ay F 5) true) (.seq (.seq (.region 6 (ay F 6) false) (.block 2 (.loop (HP F)))) (.region 13 (ay F 13) false)))) (.region 4 (ay F 4) false)))
theorem aAc:Tryz.f9.body=some (.seq (.region 0 (ay Tryz.f9 0) false) (.seq (.region 1 (ay Tryz.f9 1) false) (.seq (.seq (.region 2 (ay Tryz.f9 2) false) (.block 0 (.loop (Lh Tryz.f9)))) (.seq (.region 14 (ay Tryz.f9 14) false) .ret)))):=by kernel_rfl
structure qv(B:Nat)(W:aL)(b:Nat)(kd lI:Int)(be vs aV:Value)(xi xs qw:uad):Prop where
 lo:B<=b
 box:ah W b #[.I kd,.I lI,be,vs,aV] 36
 cw:W.ownsRow B 2 1 be xi.length xi
 os:W.ownsRow B 9 1 vs xs.length xs
 on:W.ownsRow B 4 1 aV qw.length qw
variable{W W':aL}{aV vs:Value}{qw xi xs:uad}
def qv.below{B:Nat}{b:Nat}{kd c:Int}{be:Value}(h:qv B W b kd c be vs aV xi xs qw)(a:cC W W'):qv B W' b kd c be vs aV xi xs qw:=
 ⟨h.lo,h.box.call a,HO h.cw a,HO h.os a,HO h.on a⟩
structure E3(t:List aI)(b4:uaz)(cx p2:Value)(B:Nat)(eu:aL):Prop where
 eq:B=eu.heap.size
 f1:(c9 1 ip b4).R eu cx
 iu:(cY t).R eu p2
def oT(t:List aI)(b4:uaz)(cx p2 p4 lP:Value)(k i cU:Nat)(cs:df):List (Nat×a5):=[(1,sr cx (c9 1 ip b4)),(2,sr p2 (cY t)),(4,ew p4),(5,ew lP),(6,bd k),(7,tt cU cs 36),(8,bd i)]
variable{cx lP p2 p4:Value}{t:List aI}{b4:uaz}{a:Act}
theorem oT.Ah{k i cU:Nat}{cs d:df}{B:Nat}{eu:aL}{K:bJ}{a':Act}(C:E3 t b4 cx p2 B eu)(h:af 96 K a W)(hi:Ba K (oT t b4 cx p2 p4 lP k i cU cs))(a4:a'.tmps.size=96)(hs:∀s,s<9->a'.tmps[s]?=a.tmps[s]?)(b:Below B eu W')(g:ah W' cU d 36):af 96 (a3 (oT t b4 cx p2 p4 lP k i cU d)) a' W':=by
 obtain⟨m,l,j,o,n,e,f,-⟩:=hi;have b:=C.eq▸b;refine h.Ah a4 λp c=>?_;simp[oT]at c;rcases c with rfl|rfl|rfl|rfl|rfl|rfl|rfl
 .exact⟨hs 1 AU,_,m,λv hv=>⟨hv.1,hv.1▸(c9 1 ip b4).h8 _ _ _ b C.f1⟩⟩
 .exact⟨hs 2 AU,_,l,λv hv=>⟨hv.1,hv.1▸(cY t).h8 _ _ _ b C.iu⟩⟩
 .exact⟨hs 4 AU,_,j,λv hv=>hv⟩
 .exact⟨hs 5 AU,_,o,λv hv=>hv⟩
 .exact⟨hs 6 AU,_,n,λv hv=>hv⟩
 .exact⟨hs 7 AU,_,e,λv hv=>⟨hv.1,g⟩⟩
 .exact⟨hs 8 AU,_,f,λv hv=>hv⟩
variable{c:aI}{ks ks':fC}{Q:uaf}
def aAd{k i j cU:Nat}{y:Bool}{B:Nat}{eu:aL}{be:Value}(C:E3 t b4 cx p2 B eu)(hk:t[k]?=some c)(D:b4[i]?=some ((j:Nat):Int))(E:c.dt[j]?=some y)(hn:qw.length+1<=1000000)(hS:qv B W cU c.kind c.bV be vs aV xi xs qw)(o:Below B eu W)(H:af 96 (a3 (oT t b4 cx p2 p4 lP k i cU #[.I c.kind,.I c.bV,be,vs,aV])) a W)(kk:∀a' W' v2,qv B W' cU c.kind c.bV be vs v2 xi xs (qw++[.bool y])->af 96 (a3 (oT t b4 cx p2 p4 lP k i cU #[.I c.kind,.I c.bV,be,vs,v2])) a' W'->a'.defers=a.defers->Below B eu W'->bO (ae prog true) ks ks' Q a' W'):bO (ae prog true) (.code (.region 9 (ay Tryz.f9 9) true)::ks) ks' Q a W:=by
 rw[pB (ay Tryz.f9 9)];refine yS (m:=15) H (dq U (PO U U AU U)<|dq U (E1 U U AU)<|dq U K9<|dq U Jr<|dq U Jc<|dq U LP<|dq U Kl<|dq U Jr<|dq U (Hd U U)<|dq U Jc<|dq U (dQ U U U (D) AU)<|dq U J5<|dq U (dQ U U U (E) AU)<|dq U Ks<|dq U (az0 U U)<|rfl) U z4 AQ λR h r I b2=>?_;have d:=hS.below b2;have u:Below B eu h:=o.trans (b2.mono (vad (vbk C.eq) o.size));have l:B<=h.heap.size:=vad (vbk C.eq) u.size;refine PQ (i:=15) (B:=B) (n:=qw.length) (b:=cU) (f:=4) (sb:=7) (z3:=36) (cs:=#[.I c.kind,.I c.bV,be,vs,aV]) Iy U U U U U U U U U U (λev w e=>Ar) (λev w bP n cc F P O=>Fq) AU r U U U d.on U Fh hn AU l AU λJ g v2 r1 g1 dw A K x=>⟨U,?_⟩;have z:Below B h g:=E2 d.on g1 l;have q:Below B eu (g.setCell ⟨cU,4,none⟩ v2):=u.trans (z.trans ((vaa B g).setCell (p:=⟨cU,4,none⟩) hS.lo _));have v:ah (g.setCell ⟨cU,4,none⟩ v2) cU #[.I c.kind,.I c.bV,be,vs,v2] 36:=dw.set 4 v2;refine kk J _ v2 ⟨hS.lo,v,uJ (HN d.cw d.on AU g1) dw AU _ _,uJ (HN d.os d.on AU g1) dw AU _ _,by grind[uJ]⟩ (oT.Ah C r ⟨U,U,U,U,U,U,U,NE⟩ K (λs hs=>A s AX AX) q v) (x.trans I) q
def aAe{k i j cU:Nat}{y:ByteArray}{B:Nat}{eu:aL}{be:Value}(C:E3 t b4 cx p2 B eu)(hk:t[k]?=some c)(D:b4[i]?=some ((j:Nat):Int))(E:c.dT[j]?=some y)(hn:xs.length+1<=1000000)(hS:qv B W cU c.kind c.bV be vs aV xi xs qw)(o:Below B eu W)(H:af 96 (a3 (oT t b4 cx p2 p4 lP k i cU #[.I c.kind,.I c.bV,be,vs,aV])) a W)(kk:∀a' W' v2,qv B W' cU c.kind c.bV be v2 aV xi (xs++[.string y]) qw->af 96 (a3 (oT t b4 cx p2 p4 lP k i cU #[.I c.kind,.I c.bV,be,v2,aV])) a' W'->a'.defers=a.defers->Below B eu W'->bO (ae prog true) ks ks' Q a' W'):bO (ae prog true) (.code (.region 11 (ay Tryz.f9 11) true)::ks) ks' Q a W:=by
 rw[pB (ay Tryz.f9 11)];refine yS (m:=15) H (dq U (PO U U AU U)<|dq U (E1 U U AU)<|dq U K9<|dq U Jr<|dq U Jc<|dq U LP<|dq U K_<|dq U Jr<|dq U (Hd U U)<|dq U Jc<|dq U (dQ U U U (D) AU)<|dq U J5<|dq U (dQ U U U (E) AU)<|dq U Lc<|dq U (azZ U U)<|rfl) U z4 AQ λR h r I b2=>?_;have d:=hS.below b2;have u:Below B eu h:=o.trans (b2.mono (vad (vbk C.eq) o.size));have l:B<=h.heap.size:=vad (vbk C.eq) u.size;refine PQ (i:=15) (B:=B) (n:=xs.length) (b:=cU) (f:=3) (sb:=7) (z3:=36) (cs:=#[.I c.kind,.I c.bV,be,vs,aV]) Q5 U U U U U U U U U U (λev w e=>Ar) (λev w bP n cc F P O=>Fq) AU r U U U d.os U Fh hn AU l AU λJ g v2 r1 g1 dw A K x=>⟨U,?_⟩;have z:Below B h g:=E2 d.os g1 l;have q:Below B eu (g.setCell ⟨cU,3,none⟩ v2):=u.trans (z.trans ((vaa B g).setCell (p:=⟨cU,3,none⟩) hS.lo _));have v:ah (g.setCell ⟨cU,3,none⟩ v2) cU #[.I c.kind,.I c.bV,be,v2,aV] 36:=dw.set 3 v2;refine kk J _ v2 ⟨hS.lo,v,uJ (HN d.cw d.os AU g1) dw AU _ _,by grind[uJ],uJ (HN d.on d.os AU g1) dw AU _ _⟩ (oT.Ah C r ⟨U,U,U,U,U,U,U,NE⟩ K (λs hs=>A s AX AX) q v) (x.trans I) q
def aAf{k i j cU:Nat}{y:Int}{B:Nat}{eu:aL}{be:Value}(C:E3 t b4 cx p2 B eu)(hk:t[k]?=some c)(D:b4[i]?=some ((j:Nat):Int))(E:c.fy[j]?=some y)(hn:xi.length+1<=1000000)(hS:qv B W cU c.kind c.bV be vs aV xi xs qw)(o:Below B eu W)(H:af 96 (a3 (oT t b4 cx p2 p4 lP k i cU #[.I c.kind,.I c.bV,be,vs,aV])) a W)(kk:∀a' W' v2,qv B W' cU c.kind c.bV v2 vs aV (xi++[.I y]) xs qw->af 96 (a3 (oT t b4 cx p2 p4 lP k i cU #[.I c.kind,.I c.bV,v2,vs,aV])) a' W'->a'.defers=a.defers->Below B eu W'->bO (ae prog true) ks ks' Q a' W'):bO (ae prog true) (.code (.region 12 (ay Tryz.f9 12) true)::ks) ks' Q a W:=by
 rw[pB (ay Tryz.f9 12)];refine yS (m:=15) H (dq U (PO U U AU U)<|dq U (E1 U U AU)<|dq U K9<|dq U Jr<|dq U Jc<|dq U LP<|dq U LA<|dq U Jr<|dq U (Hd U U)<|dq U Jc<|dq U (dQ U U U (D) AU)<|dq U J5<|dq U (dQ U U U (E) AU)<|dq U J5<|dq U (azY U U)<|rfl) U z4 AQ λR h r I b2=>?_;have d:=hS.below b2;have u:Below B eu h:=o.trans (b2.mono (vad (vbk C.eq) o.size));have l:B<=h.heap.size:=vad (vbk C.eq) u.size;refine PQ (i:=15) (B:=B) (n:=xi.length) (b:=cU) (f:=2) (sb:=7) (z3:=36) (cs:=#[.I c.kind,.I c.bV,be,vs,aV]) Q4 U U U U U U U U U U (λev w e=>Ar) (λev w bP n cc F P O=>Fq) AU r U U U d.cw U Fh hn AU l AU λJ g v2 r1 g1 dw A K x=>⟨U,?_⟩;have z:Below B h g:=E2 d.cw g1 l;have q:Below B eu (g.setCell ⟨cU,2,none⟩ v2):=u.trans (z.trans ((vaa B g).setCell (p:=⟨cU,2,none⟩) hS.lo _));have v:ah (g.setCell ⟨cU,2,none⟩ v2) cU #[.I c.kind,.I c.bV,v2,vs,aV] 36:=dw.set 2 v2;refine kk J _ v2 ⟨hS.lo,v,by grind[uJ],uJ (HN d.os d.cw AU g1) dw AU _ _,uJ (HN d.on d.cw AU g1) dw AU _ _⟩ (oT.Ah C r ⟨U,U,U,U,U,U,U,NE⟩ K (λs hs=>A s AX AX) q v) (x.trans I) q
def gr(l:e8):List Int:=l.map λ(j:Nat)=>(j:Int)
def lj(l:e8):(gr l).length=l.length:=by simp[gr]
def oh(c:aI)(l:e8):List Value:=if c.kind=3 then []else l.map λj=>.I (c.fy.getD j 0)
def oi(c:aI)(l:e8):List Value:=if c.kind=3 then l.map λj=>.string (c.dT.getD j jc)else []
def rB(c:aI)(l:e8):List Value:=l.map λj=>.bool (c.dt.getD j false)
def aAg(c:aI)(l:e8):(oh c l).length<=l.length/\(oi c l).length<=l.length/\(rB c l).length=l.length:=by grind[oh,oi,rB]
def Li(c:aI)(j:Nat):Prop:=j<c.dt.length/\(c.kind=3->j<c.dT.length)/\(¬c.kind=3->j<c.fy.length)
def getD_some{ap:Type}{l:List ap}{j:Nat}(h:j<l.length)(d:ap):l[j]?=some (l.getD j d):=by simp[h]
def aAh{want:e8}{k cU:Nat}{B:Nat}{eu:aL}(C:E3 t (gr want) cx p2 B eu)(hk:t[k]?=some c)(M:∀j∈want,Li c j)(hl:want.length<=1000)(kk:∀a' W' be vs aV,qv B W' cU c.kind c.bV be vs aV (oh c want) (oi c want) (rB c want)->af 96 (a3 (oT t (gr want) cx p2 p4 lP k want.length cU #[.I c.kind,.I c.bV,be,vs,aV])) a' W'->a'.defers=[]->Below B eu W'->bO (ae prog true) ks ks' Q a' W'):
 ∀m i a W be vs aV,i+m=want.length->qv B W cU c.kind c.bV be vs aV (oh c (want.take i)) (oi c (want.take i)) (rB c (want.take i))->af 96 (a3 (oT t (gr want) cx p2 p4 lP k i cU #[.I c.kind,.I c.bV,be,vs,aV])) a W->a.defers=[]->Below B eu W->bO (ae prog true) (.code (HP Tryz.f9):: .inLoop (HP Tryz.f9):: .inBlock 2::ks) ks' Q a W:=by
 intro m;induction m with
 |zero=>
  intro i a W be vs aV hi hS r hd n;obtain rfl:i=want.length:=AX;have g:¬((want.length:Nat):Int)<((gr want).length:Int):=by rw[lj];omega
  unfold HP;refine bq (bq ?_);rw[pB (ay Tryz.f9 7)];refine c5 r (ao rfl Jc<|ao rfl (Hd rfl rfl)<|ao rfl Kh<|ao rfl (zP rfl rfl rfl AU g)<|rfl) λa1 w1 l d1 b1=>?_;have u:Below B eu w1:=n.trans (b1.mono (vad (vbk C.eq) n.size));rw[List.take_length]at hS;have y:=hS.below b1;exact fI (t:=false) (ly l rfl) (xe (te:=ks) FA (kk a1 w1 be vs aV y (l.aZ ⟨rfl,rfl,rfl,rfl,rfl,rfl,rfl,NE⟩) (d1.trans hd) u))
 |succ m L=>
  intro i a W be vs aV hi hS r hd n;have z:i<want.length:=AX;have g:(i:Int)<((gr want).length:Int):=by rw[lj];omega
  have v:=M _ (vax z);have E:want.take (i+1)=want.take i++[want[i]]:=(List.take_append_getElem z).symm;have hlen:(want.take i).length<=1000:=AF;have U:=aAg c (want.take i);have w:(gr want)[i]?=some ((want[i]:Nat):Int):=by simp[gr,z]
  unfold HP;refine bq (bq ?_);rw[pB (ay Tryz.f9 7)];refine c5 r (ao rfl Jc<|ao rfl (Hd rfl rfl)<|ao rfl Kh<|ao rfl (EC rfl rfl rfl AU g)<|rfl) λa1 w1 l d1 b1=>?_;have u:Below B eu w1:=n.trans (b1.mono (vad (vbk C.eq) n.size));have y:=hS.below b1;refine fI (t:=true) (ly l rfl) (nt (bq (nr (bq ?_))));refine aAd C hk w (getD_some v.1 false) AX y u (l.aZ ⟨rfl,rfl,rfl,rfl,rfl,rfl,rfl,NE⟩) λZ Y v2 J K S b2=>bq ?_;rw[pB (ay Tryz.f9 10)];refine c5 K (ao rfl (PO rfl rfl AU rfl)<|ao rfl (azX rfl rfl)<|ao rfl Kr<|rfl) λT A k3 p H=>?_;have D:Below B eu A:=b2.trans (H.mono (vad (vbk C.eq) b2.size));have I:=J.below H;have X:=ly k3 rfl (s:=54);have k3:af 96 (a3 (oT t (gr want) cx p2 p4 lP k i cU #[.I c.kind,.I c.bV,be,vs,v2])) T A:=k3.aZ ⟨rfl,rfl,rfl,rfl,rfl,rfl,rfl,NE⟩;have p:=p.trans (S.trans (d1.trans hd));have dN:∀f b be vs aV,qv B b cU c.kind c.bV be vs aV (oh c (want.take (i+1))) (oi c (want.take (i+1))) (rB c (want.take (i+1)))->af 96 (a3 (oT t (gr want) cx p2 p4 lP k i cU #[.I c.kind,.I c.bV,be,vs,aV])) f b->f.defers=[]->Below B eu b->bO (ae prog true) (.inBlock 3:: .code (.region 8 (ay Tryz.f9 8) false):: .inLoop (HP Tryz.f9):: .inBlock 2::ks) ks' Q f b:=by intro f b be vs aV x h o bk;refine vz ?_;rw[pB (ay Tryz.f9 8)];refine c5 h Ki λP dK F R bt=>A5 ?_;have e:((i:Int)+1)=((i+1:Nat):Int):=AX;rw[e]at F;exact L (i+1) P dK be vs aV AX (x.below bt) (F.aZ ⟨rfl,rfl,rfl,rfl,rfl,rfl,rfl,NE⟩) (R.trans o) (bk.trans (bt.mono (vad (vbk C.eq) bk.size)))
  have V:rB c (want.take (i+1))=rB c (want.take i)++[.bool (c.dt.getD want[i] false)]:=by grind[rB]
  by_cases d:c.kind=3
  .refine fI (t:=true) AF ?_;rw[vbv rfl];refine aAe C hk w (getD_some (v.2.1 d) jc) AX I D k3 λf b q x h o bk=>dN f b be q v2 ?_ h (o.trans p) bk;have O:oh c (want.take (i+1))=oh c (want.take i):=by simp[oh,d]
   have N:oi c (want.take (i+1))=oi c (want.take i)++[.string (c.dT.getD want[i] jc)]:=by rw[E,oi,oi,vbv d,vbv d,vcr];rfl
   grind
  .refine fI (t:=false) AF ?_;rw[vbp AU];refine aAf C hk w (getD_some (v.2.2 d) 0) AX I D k3 λf b q x h o bk=>dN f b q vs v2 ?_ h (o.trans p) bk;have O:oi c (want.take (i+1))=oi c (want.take i):=by simp[oi,d]
   have N:oh c (want.take (i+1))=oh c (want.take i)++[.I (c.fy.getD want[i] 0)]:=by rw[E,oh,oh,vbp d,vbp d,vcr];rfl
   grind
variable{dm:aL}{bE bN v:Value}
section
section
variable{N:Nat}{K:bJ}{o:Oper}{F:a5}{x y z:uap}{s:Nat}{B:Nat}
def aAi{m n:Int}(a:o.op=.build 36 #[(0,x),(1,y)])(e:bl K x (bd m))(d:bl K y (bd n)):bA (ae prog true) N K o (ew (.agg #[.I m,.I n,.N,.N,.N])):=xx e d λev w c b=>⟨_,w,by
 have c:ev x=.I m:=c;have b:ev y=.I n:=b;cases o;simp only at a;subst a;go_simp,U,vaa _ _⟩
def aAj(b:o.op=.alloc 36)(d:K s=some (qo B F)):bA (ae prog true) N K o (UI B #[.I 0,.I 0,.N,.N,.N] 36):=λa w hk=>by obtain⟨v,-,c,-⟩:=hk.has s _ d;refine .inl ⟨.P w.heap.size 0,w.alloc (.cells #[.I 0,.I 0,.N,.N,.N] 36),?_,⟨w.heap.size,U,c,ah.new _ _ _⟩,(vaa _ w).alloc Jb _⟩;cases o;simp only at b;subst b;go_simp
def kV(b:o.op=.alloc 27)(d:K s=some (qo B F)):bA (ae prog true) N K o (UI B #[.N] 27):=λa w hk=>by obtain⟨v,-,c,-⟩:=hk.has s _ d;refine .inl ⟨.P w.heap.size 0,w.alloc (.cells #[.N] 27),?_,⟨w.heap.size,U,c,ah.new _ _ _⟩,(vaa _ w).alloc Jb _⟩;cases o;simp only at b;subst b;go_simp
def aAk{b:Nat}{v0 v1 v2 v3 a:Value}(c:o.op=.load 36 x)(d:bl K x (tt b #[v0,v1,v2,v3,a] 36)):bA (ae prog true) N K o (ew (.agg #[v0,v1,v2,v3,a])):=dM d λev w h=>by obtain⟨e,h⟩:=h;obtain⟨i,g,f⟩:=h.all;refine⟨_,w,?_,U,vaa _ _⟩;cases o;simp only at c;subst c;go_simp
def aAl{b:Nat}(a:o.op=.load 27 x)(c:bl K x (tt b #[v] 27)):bA (ae prog true) N K o (ew (.agg #[v])):=dM c λev w h=>by obtain⟨e,h⟩:=h;obtain⟨g,f,d⟩:=h.all;refine⟨_,w,?_,U,vaa _ _⟩;cases o;simp only at a;subst a;go_simp
def aAm{m n:Int}{c b an:uan}{li ci g a f d:Nat}(i:o.op=.buildSlice 25 1 #[(0,x)])(k:bl K x (ew (.agg #[.I m,.I n,.slice c li ci,.slice b g a,.slice an f d]))):bA (ae prog true) N K o (z2 [.I m,.I n,.slice c li ci,.slice b g a,.slice an f d]):=dM k λev w h=>by
 have e:ev x=_:=h;refine⟨.S w.heap.size 0 1 1,w.alloc (.cells #[.I m,.I n,.slice c li ci,.slice b g a,.slice an f d] 36),?_,⟨w.heap.size,1,U,λj v l=>?_⟩,(vaa _ w).alloc Jb _⟩
 .cases o;simp only at i;subst i;go_simp
 simp_all
end
def Wl{ap:Type}{R:aL->(Nat->Option Value)->ap->Prop}(g:∀w w' rd a x,(∀j v,rd j=some v->a j=some v)->R w rd x->R w' a x){w w':aL}{e:uaa}(hk:∀(b:Nat) c z,w.heap[b]?=some (.cells c e z)->w'.heap[b]?=some (.cells c e z))(ht:pj w v e){xs:List ap}(h:a0 w 1 R v xs):a0 w' 1 R v xs/\pj w' v e:=by obtain⟨bP,cap,rfl,hl,k⟩:=h;refine⟨⟨bP,cap,U,hl,λi hi=>?_⟩,λb d=>by obtain⟨c,z,f⟩:=ht b d;grind⟩;obtain⟨b,off,rfl,h⟩:=k i hi;refine⟨b,off,U,g _ _ _ _ _ (λj v hv=>?_) h⟩;obtain⟨c,z,f⟩:=ht b U;grind[World.cell?]
structure HQ(W:aL)(be vs aV:Value)(c:aI):Prop where
 is:tD W be vs aV c
 Hi:pj W be 2
 ts:pj W vs 9
 xt:pj W aV 4
def HQ.keep{be:Value}(h:HQ W be vs aV c)(hk:∀e,e=2\/e=9\/e=4->∀(b:Nat) c z,W.heap[b]?=some (.cells c e z)->W'.heap[b]?=some (.cells c e z)):HQ W' be vs aV c:=by obtain⟨g,f⟩:=Wl (R:=qG) Lj (hk _ KB) h.Hi h.is.fy;obtain⟨d,kt⟩:=Wl (R:=B_) (λ_ _ _ _ _ a h=>⟨a _ _ h.1,h.2⟩) (hk _ (.inr KB)) h.ts h.is.dT;obtain⟨n1,eJ⟩:=Wl (R:=Am) Lj (hk _ (.inr Kj)) h.xt h.is.dt;exact⟨⟨g,d,n1⟩,f,kt,eJ⟩
structure PS(B:Nat)(W:aL)(b:Nat)(bN:Value)(cells:uad)(fz:List aI):Prop where
 lo:B<=b
 box:ah W b #[bN] 27
 own:W.ownsRow B 36 5 bN fz.length cells
 mR:∀j c,fz[j]?=some c->∃be vs aV,(∀f,f<5->cells[j*5+f]?=[Value.int .i64 c.kind,.I c.bV,be,vs,aV][f]?)/\HQ W be vs aV c
structure pC(B:Nat)(W:aL)(bN:Value)(cells:uad)(fz:List aI):Prop where
 own:W.ownsRow B 36 5 bN fz.length cells
 mR:∀j c,fz[j]?=some c->∃be vs aV,(∀f,f<5->cells[j*5+f]?=[Value.int .i64 c.kind,.I c.bV,be,vs,aV][f]?)/\HQ W be vs aV c
def pC.below{B:Nat}{cells:uad}{fz:List aI}(h:pC B W bN cells fz)(a:cC W W'):pC B W' bN cells fz:=
 ⟨HO h.own a,λj c f=>by
  obtain⟨be,vs,aV,i,g⟩:=h.mR j c f;exact⟨be,vs,aV,i,g.keep λe _ b c z d=>(a.block b AF).trans d⟩⟩
theorem PS.below{B:Nat}{b:Nat}{cells:uad}{fz:List aI}(h:PS B W b bN cells fz)(a:cC W W'):PS B W' b bN cells fz:=
 have k:=pC.below ⟨h.own,h.mR⟩ a;⟨h.lo,h.box.call a,k.own,k.mR⟩
def PT{B:Nat}{e:uaa}{size:Nat}{n:Nat}(h:W.ownsRow B e size v n xs):pj W v e:=λb d=>by obtain⟨c,a⟩:=Le h d;exact⟨c,_,a⟩
def pC.read{B:Nat}{cells:uad}{fz:List aI}(h:pC B W bN cells fz)(hl:fz.length<=1000):lJ W bN fz:=by
 refine⟨?_,PT h.own⟩;obtain⟨j,⟨rfl,hn⟩|⟨g,cap,bf,rfl,hg,b,m,l,k,d⟩⟩:=id h.own
 .grind[a0.nil]
 .refine⟨some ⟨g,0,none⟩,cap,U,AX,λi hi=>⟨g,0,U,?_⟩⟩;obtain⟨be,vs,aV,e,a⟩:=h.mR i fz[i] (vag hi);have rd:∀f,f<5->W.cell? (.a g (0+i*5+f))=[Value.int .i64 fz[i].kind,.I fz[i].bV,be,vs,aV][f]?:=λf c=>by rw[(ah.rules (show ah W g bf _ from b)).1,<-e f c,<-d,List.getElem?_take,vbv AX,vea];grind
  exact⟨be,vs,aV,rd 0 AU,rd 1 AU,rd 2 AU,rd 3 AU,rd 4 AU,a.is,a.Hi,a.ts,a.xt⟩
def qv.aAn{B:Nat}{b:Nat}{be:Value}{want:e8}(h:qv B W b c.kind c.bV be vs aV (oh c want) (oi c want) (rB c want))(hs:∀s∈c.dT,s.size<=1000):HQ W be vs aV (nC c want):=by
 refine⟨⟨?_,?_,?_⟩,PT h.cw,PT h.os,PT h.on⟩
 .refine yG h.cw (by grind[nC,oh]) λi hi rd h0=>?_;unfold oh at h0;unfold nC at hi⊢;simp only at hi⊢;by_cases a:c.kind=3
  .grind
  .simp only[a,vef,vdp]at h0⊢;exact h0
 .refine yG h.os (by grind[nC,oi]) λi hi rd h0=>?_;unfold oi at h0;unfold nC at hi⊢;simp only at hi⊢;by_cases a:c.kind=3
  .simp only[a,vdg,vdp]at h0⊢;refine⟨h0,?_⟩;have:(c.dT.getD (want[i]'AF) jc).size<=1000:=by rw[ven];cases d:c.dT[(want[i]'AF)]? with|none=>decide|some s=>grind
   omega
  grind
 .refine yG h.on (by unfold nC rB;simp) λi hi rd h0=>?_;simp only[rB,nC,vdp]at h0⊢;exact h0
structure tu(t:List aI)(want:e8)(dm:aL)(cx bE:Value)(b2 bk bt:Nat)(k:Nat)(W:aL)(bN:Value)(cells:uad):Prop where
 kq:cC dm W
 f1:(c9 1 ip (gr want)).R dm cx
 iu:lJ dm bE t
 dI:ah W b2 #[bE] 27
 nO:ah W bk #[.N] 27
 eJ:b2≠bt
 nF:dm.heap.size<=bk/\bk≠bt
 out:PS dm.heap.size W bt bN cells ((t.take k).map (nC · want))
def tu.bu{want:e8}{b2 bk bt k:Nat}{cells:uad}(h:tu t want dm cx bE b2 bk bt k W bN cells):(cY t).R W (.P b2 0):=⟨b2,bE,U,vav _,h.dI,lJ.kept (zX h.kq) h.iu⟩
theorem tu.below{want:e8}{b2 bk bt k:Nat}{cells:uad}(h:tu t want dm cx bE b2 bk bt k W bN cells)(a:cC W W'):tu t want dm cx bE b2 bk bt k W' bN cells:=
 ⟨h.kq.trans (a.mono h.kq.size),h.f1,h.iu,h.dI.call a,h.nO.call a,h.eJ,h.nF,h.out.below a⟩
def BP(cx:Value)(b2 bk bt k:Nat):List (Nat×a5):=[(1,ew cx),(2,ew (.P b2 0)),(4,ew (.P bk 0)),(5,ew (.P bt 0)),(6,bd k)]
def HR(t:List aI)(want:e8)(B:Nat)(cx:Value)(b2 bk bt k:Nat):List (Nat×a5):=[(1,sr cx (c9 1 ip (gr want))),(2,sr (.P b2 0) (cY t)),(4,qo B (ew (.P bk 0))),(5,ew (.P bt 0)),(6,bd k)]
def tu.aE{want:e8}{b2 bk bt k:Nat}{cells:uad}(h:tu t want dm cx bE b2 bk bt k W bN cells)(hk:af 96 (a3 (BP cx b2 bk bt k)) a W):af 96 (a3 (HR t want W.heap.size cx b2 bk bt k)) a W:=by
 refine hk.Ah hk.size λp b=>⟨U,?_⟩;simp[HR]at b;rcases b with rfl|rfl|rfl|rfl|rfl
 .exact⟨_,U,λv hv=>⟨hv,hv▸(c9 1 ip (gr want)).h8 _ _ _ h.kq h.f1⟩⟩
 .exact⟨_,U,λv hv=>⟨hv,hv▸h.bu⟩⟩
 .exact⟨_,U,λv hv=>⟨vac _,hv⟩⟩
 .exact⟨_,U,λv hv=>hv⟩
 .exact⟨_,U,λv hv=>hv⟩
def HR.free{want:e8}{B:Nat}{b2 bk bt k:Nat}{K:bJ}(hk:af 96 K a W)(hi:Ba K (HR t want B cx b2 bk bt k)):af 96 (a3 (BP cx b2 bk bt k)) a W':=by
 obtain⟨e,d,c,g,f,-⟩:=hi;refine hk.Ah hk.size λp b=>⟨U,?_⟩;simp[BP]at b;rcases b with rfl|rfl|rfl|rfl|rfl
 .exact⟨_,e,λv hv=>hv.1⟩
 .exact⟨_,d,λv hv=>hv.1⟩
 .exact⟨_,c,λv hv=>hv.2⟩
 .exact⟨_,g,λv hv=>hv⟩
 .exact⟨_,f,λv hv=>hv⟩
end
def aAp{want:e8}{eu:aL}{b2 bk bt k:Nat}{cells:uad}(hk:t[k]?=some c)(g:tu t want dm cx bE b2 bk bt k eu bN cells)(j:af 96 (a3 (BP cx b2 bk bt k)) a eu)(kk:∀a' W' cU,E3 t (gr want) cx (.P b2 0) eu.heap.size eu->qv eu.heap.size W' cU c.kind c.bV (.N) (.N) (.N) [] [] []->af 96 (a3 ((7,tt cU #[.I c.kind,.I c.bV,.N,.N,.N] 36)::[(1,sr cx (c9 1 ip (gr want))),(2,sr (.P b2 0) (cY t)),(4,ew (.P bk 0)),(5,ew (.P bt 0)),(6,bd k)])) a' W'->a'.defers=a.defers->cC eu W'->bO (ae prog true) ks ks' Q a' W'):bO (ae prog true) (.code (.region 5 (ay Tryz.f9 5) true)::ks) ks' Q a eu:=by
 have C:E3 t (gr want) cx (.P b2 0) eu.heap.size eu:=⟨U,(c9 1 ip (gr want)).h8 _ _ _ g.kq g.f1,g.bu⟩;have hg:=g.aE j;rw[pB (ay Tryz.f9 5)];refine yS (m:=14) hg (dq U K9<|dq U Jr<|dq U Jc<|dq U LP<|dq U (hM U U AU UJ)<|dq U J5<|dq U K9<|dq U Jr<|dq U Jc<|dq U LP<|dq U (hM U U AU UK)<|dq U J5<|dq U (aAi U U U)<|dq U (aAj U (s:=4) U)<|rfl) U z4 AQ λn e b l o=>?_;obtain⟨u7,q,cU,rfl,d,f⟩:=b.has 7 _ U;obtain⟨u28,y,rfl⟩:=b.has 28 _ U;have h:cC eu (dK e cU 0 (.I c.kind) (.I c.bV) (.N) (.N) (.N)):=o.trans (S4 e d _ _ _ _ _ _);have cW:ah (dK e cU 0 (.I c.kind) (.I c.bV) (.N) (.N) (.N)) cU #[.I c.kind,.I c.bV,.N,.N,.N] 36:=WQ f 0 _ _ _ _ _;have r:Hid _:=f;obtain⟨x,w,u⟩:=f.all;clear f;show wpOps _ _ _ [14] _ _;refine qf (w1:=dK e cU 0 (.I c.kind) (.I c.bV) (.N) (.N) (.N)) U U U Ar ?_;refine kk n _ cU C ⟨d,cW,vbm _ _ _ _,vbm _ _ _ _,vbm _ _ _ _⟩ ?_ l h;refine af.of b.size λp i=>?_;simp at i;rcases i with rfl|rfl|rfl|rfl|rfl|rfl
 .exact⟨_,q,U,cW⟩
 .exact b.get U U λv hv=>⟨hv.1,hv.1▸(c9 1 ip (gr want)).h8 _ _ _ h C.f1⟩
 .exact b.get U U λv hv=>⟨hv.1,hv.1▸(cY t).h8 _ _ _ h C.iu⟩
 .exact b.get U U λv hv=>hv.2
 .exact b.get U U λv hv=>hv
 .exact b.get U U λv hv=>hv
