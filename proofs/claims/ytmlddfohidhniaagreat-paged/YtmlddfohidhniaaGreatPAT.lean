import Derived.Test.YtmlddfohidhniaaGreatPAS
set_option linter.all false
set_option maxRecDepth 100000
set_option maxHeartbeats 16000000
namespace Go.Proofs.YtmlddfohidhniaaGreat
open Go.Proofs.Tryz
namespace a3
open Conc ConcM RowKit ax bp cI dm bS cq eC
section
variable{O:gJ}
def Ol{P:b4}{Post:uab}{n:Nat}{Shun:uam}{M:dh}{w:aS}{f:uaj}{a:Act}{k k':il}{cs:fV}{n0:Nat}{a6:dh}{w0:aS}(z:(cY P).Good)(t:kA P f){s s':Nat}{x y:Value}(r:ar (bQ M) x x)(q:ar (bQ M) y y)(H:Held O P a6 w0 n0 a M w Shun)(hk:k.all (gr P)=true)(B:k'.all (gr P)=true){I J:uag}(u:pQ n0 I)(A:pQ n0 J)(h0:I a w)(hrun:∀W,n0<=W.heap.size->I a W->bI (ae P true) k k' (λa1 w1=>a1.defers=[]/\(a1.tmps[s]?=some x/\a1.tmps[s']?=some y)/\J a1 w1/\Below n0 W w1) a W)(C:∀a' M' w',Held O P a6 w0 n0 a' M' w' Shun->(a'.tmps[s]?=some x/\a'.tmps[s']?=some y)->J a' w'->bP P Post n Shun 0 (a0 ((base f).at a' k') cs) w'):
 bP P Post n Shun 0 (a0 ((base f).at a k) cs) w:=by
 refine Z4 z H.fH t H.all H.defers hk B (Q:=λd a1 w1=>(a1.tmps[s]?=some x/\a1.tmps[s']?=some y)/\J a1 w1/\∃T,Below n0 {d with tape:=T} w1) (λd i T b cs=>?_) ?_
 .obtain⟨a1,w1,⟨m,g,l,c⟩,j⟩:=hrun {d with tape:=T} (by show n0<=d.heap.size;rw[i.size];exact H.size) (u _ _ _ _ _ (H.fH.kX i T) H.all h0) b cs;exact⟨a1,w1,⟨m,g,l,T,c⟩,j⟩
 .rintro ρ d a1 w1 a' w' i ⟨g,m,T,l⟩ c j h;have key:∀(s:Nat) v,ar (bQ M) v v->a1.tmps[s]?=some v->a'.tmps[s]?=some v:=λs v hv e=>by obtain⟨D,p,o⟩:=c.some e;rw[p,h.same hv o]
  exact C a' (pO ρ) w' (H.next i h l (h.all c) j) ⟨key _ _ r g.1,key _ _ q g.2⟩ (A _ _ _ _ _ (h.kX H.size) c m)
def Kn:iK prog true f20=true:=by decide+kernel
def aup:∃o ats,(av f20 5)[4]?=some o/\o.op=.call {callee:=.value (.func 27),args:=#[.tmp 25,.tmp 26,.tmp 27,.tmp 28],argTypes:=ats}/\o.guard=none/\o.dst=some 29:=⟨_,_,Y,Y,Y,Y⟩
section
variable{Post:uab}{M:dh}{w:aS}{be:Value}{bK:uan}{cap:Nat}{ns:List sS}{ts:List (List aG)}{eu:List (List aZ)}{W ak:Int}{cs:fV}
def uX{dF:bb}(hok:dF.ok=λ_=>True)(p:∃Shun,Home O prog M Shun w)(S:ar (bQ M) be be)(Q:ar (bQ M) (.slice bK ns.length cap) (.slice bK ns.length cap))(ht:(dO 1 lT ts).R w be)(Z:(dO 7 ou ns).R w (.slice bK ns.length cap))(a7:ns.length<=1000){k:Nat}(Y:k<ns.length)(rg:(eu.take k).length=k)(t:∀args M w,aJ (bQ M) args args->af 86 (a2 [(0,qJ ns[k]),(1,dO 1 lT ts),(2,dO 1 qI (eu.take k)),(3,mg W ak)]) ⟨args++Array.replicate (86-args.size) undef,[]⟩ w->gi O prog Post 27 args M w 1 (λu _ w'=>dF.R w' u/\cy M w w')){a':Act}{M':dh}{w':aS}{q:Nat}{V:uam}(pq:q+16<=900000)(j:Held O prog M w w.heap.size a' M' w' V)(hs:a'.tmps[0]?=some be/\a'.tmps[17]?=some (.slice bK ns.length cap))(g:af 57 (a2 (k6 w.heap.size ns.length (eu.take k) W ak k)) a' w')(dg:∀a r e n m,n<=q+16->Held O prog M w w.heap.size a r e m->(a.tmps[0]?=some be/\a.tmps[17]?=some (.slice bK ns.length cap))->af 57 (a2 ((29,dF)::(10,a5 k)::k6 w.heap.size ns.length (eu.take k) W ak k)) a e->bP prog Post n m 0 (a0 ((base 20).at a (.R (av f20 5) (List.range' 5 5)::D5 f20)) cs) e):
 bP prog Post q V 0 (a0 ((base 20).at a' (t9 f20)) cs) w':=by
 obtain⟨Shun,p⟩:=p;have T:kA prog 20:=Aj func20 Kn D6;have P:cy M w w':=j.keep.sub λb hb t=>⟨hb,t⟩;have mq:=vag Y;have sub:∀{M'},(∀b,M b->M' b)->ar (bQ M') be be/\ar (bQ M') (.slice bK ns.length cap) (.slice bK ns.length cap):=λh=>⟨S.mono (qx h),Q.mono (qx h)⟩;refine Ol nJ T (sub j.sub).1 (sub j.sub).2 j (k':=.R (av f20 5) (List.range' 4 6)::D5 f20) AJ AJ (s:=0) (s':=17) (I:=af 57 (a2 ((0,dO 1 lT ts)::(17,dO 7 ou ns)::k6 w.heap.size ns.length (eu.take k) W ak k))) (J:=af 57 (a2 ((27,dO 1 qI (eu.take k))::(25,qJ ns[k])::(26,dO 1 lT ts)::(28,mg W ak)::(10,a5 k)::k6 w.heap.size ns.length (eu.take k) W ak k))) (jx _ (iz ⟨PJ,PJ,rfl,rfl,PJ,PJ,PJ,PJ⟩)) (jx _ (iz ⟨PJ,PJ,PJ,PJ,PJ,rfl,rfl,PJ,PJ,PJ,PJ⟩)) (fu hs.1 ((dO 1 lT ts).ic 0 trivial _ _ _ _ _ (P.kX p) S ht)<|fu hs.2 ((dO 7 ou ns).ic 0 trivial _ _ _ _ _ (P.kX p) Q Z) g) (λW1 hW g=>?_) λbc X H f R c=>?_
 .obtain⟨v,U,bn⟩:=g.has 0 _ rfl;obtain⟨u,L,q4⟩:=g.has 17 _ rfl;rw[hs.1]at U;rw[hs.2]at L;cases U;cases L;exact atX rg a7 Y mq j.defers hW hs.1 hs.2 bn q4 (g.aU ⟨rfl,rfl,rfl,rfl,rfl,PJ⟩)
 obtain⟨o,ats,ho,x,dY,ix⟩:=aup;refine S1 (i:=4) (rest:=List.range' 5 5) (d:=1) x func27 Ah UY AP T f AJ ho dY ⟨ix,by rw[c.size];decide⟩ (I:=af 57 (a2 ((27,dO 1 qI (eu.take k))::(25,qJ ns[k])::(26,dO 1 lT ts)::(28,mg W ak)::(10,a5 k)::k6 w.heap.size ns.length (eu.take k) W ak k))) (J:=λa e=>(a.tmps[0]?=some be/\a.tmps[17]?=some (.slice bK ns.length cap))/\af 57 (a2 ((29,dF)::(10,a5 k)::k6 w.heap.size ns.length (eu.take k) W ak k)) a e) (mX:=dF.R) (jx _ (iz ⟨PJ,PJ,PJ,PJ,PJ,rfl,rfl,PJ,PJ,PJ,PJ⟩)) c (λk'=>?_) (λu e h1 h2=>?_) λa r e n m xG gM⟨jo,D_⟩=>?_
 .have c:=jx (N:=57) (K:=a2 ((27,dO 1 qI (eu.take k))::(25,qJ ns[k])::(26,dO 1 lT ts)::(28,mg W ak)::(10,a5 k)::k6 w.heap.size ns.length (eu.take k) W ak k)) w.heap.size (iz ⟨PJ,PJ,PJ,PJ,PJ,rfl,rfl,PJ,PJ,PJ,PJ⟩) _ _ _ _ _ ((cy.FY X H k').kX f.fH) f.all c;obtain⟨v25,E,B⟩:=c.has 25 _ rfl;obtain⟨v26,D,A⟩:=c.has 26 _ rfl;obtain⟨v27,C,z⟩:=c.has 27 _ rfl;obtain⟨v28,F,y⟩:=c.has 28 _ rfl;rw[show(#[Operand.tmp 25,.tmp 26,.tmp 27,.tmp 28].map bc.eval)=#[v25,v26,v27,v28]from by simp[d_ E,d_ D,d_ C,d_ F]];exact t _ X (H.at k') (og (l:=[v25,v26,v27,v28]) λv hv=>by
   simp only[vbn,vcy,or_false]at hv;rcases hv with rfl|rfl|rfl|rfl
   .exact f.all.get _ _ _ E E
   .exact f.all.get _ _ _ D D
   .exact f.all.get _ _ _ C C
   .exact f.all.get _ _ _ F F) (fu (v:=v25) Kt B<|fu (v:=v26) Kt A<|fu (v:=v27) Kt z<|fu (v:=v28) Kt y<|GM Ad)
 .exact⟨⟨(fY AX).trans R.1,(fY AX).trans R.2⟩,(h1.put AX (vaa _ _) h2).aU ⟨rfl,rfl,rfl,rfl,rfl,rfl,rfl,PJ⟩⟩
 .exact dg a r e n m AP gM jo D_
def auu{m n:Nat}{Shun:uam}(t:aJ (bQ M) #[be,.slice bK ns.length cap,.agg #[.I W,.I ak]] #[be,.slice bK ns.length cap,.agg #[.I W,.I ak]])(ht:(dO 1 lT ts).R w be)(Q:(dO 7 ou ns).R w (.slice bK ns.length cap))(hl:eu.length=m)(hm:m<=ns.length)(a7:ns.length<=1000)(p:∀x∈eu,x.length<=300/\Full x)(hn:n+16*m<=900000)(E:Home O prog M Shun w)(V:∀(k:Nat) ib x,ns[k]?=some ib->eu[k]?=some x->∀args M w,aJ (bQ M) args args->af 86 (a2 [(0,qJ ib),(1,dO 1 lT ts),(2,dO 1 qI (eu.take k)),(3,mg W ak)]) ⟨args++Array.replicate (86-args.size) undef,[]⟩ w->gi O prog Post 27 args M w 1 (λu _ w'=>(pX x).R w' u/\cy M w w'))(Y:∀a' M' w' b d,b<=n+16*m->Held O prog M w w.heap.size a' M' w' d->(a'.tmps[0]?=some be/\a'.tmps[17]?=some (.slice bK ns.length cap))->af 57 (a2 (k6 w.heap.size ns.length eu W ak m)) a' w'->bP prog Post b d 0 (a0 ((base 20).at a' (t9 f20)) cs) w'):
 bP prog Post n Shun 0 (a0 (Frame.enter prog 20 #[be,.slice bK ns.length cap,.agg #[.I W,.I ak]] .normal) cs) w:=by
 have D:kA prog 20:=Aj func20 Kn D6;rw[vds func20 D6];have o:=t.get 0 _ _ rfl rfl;have g:=t.get 1 _ _ rfl rfl;have loop:∀j k,k+j=m->∀a' M' w' b d,b<=n+16*k->Held O prog M w w.heap.size a' M' w' d->(a'.tmps[0]?=some be/\a'.tmps[17]?=some (.slice bK ns.length cap))->af 57 (a2 (k6 w.heap.size ns.length (eu.take k) W ak k)) a' w'->bP prog Post b d 0 (a0 ((base 20).at a' (t9 f20)) cs) w':=by
  intro j;induction j with
  |zero=>intro k hk a' M' w' b d B r hs c;obtain rfl:k=m:=hk;rw[vbv AP]at c;exact Y a' M' w' b d B r hs c
  |succ j T=>intro k hk a' M' w' b d B r hs c;have z:k<ns.length:=AP;have A:(eu.take k).length=k:=Aq;have U:=vag (l:=eu) (i:=k) AP;have e:eu[k]∈eu:=vax _;refine uX (dF:=pX eu[k]) rfl ⟨Shun,E⟩ o g ht Q a7 z A (V k _ _ (vag z) U) AP r hs c λbz m6 w3 R L xG f C D_=>?_;refine Ol nJ D (o.mono (qx f.sub)) (g.mono (qx f.sub)) f (k':=t9 f20) AJ AJ (s:=0) (s':=17) (I:=af 57 (a2 ((29,pX eu[k])::k6 w.heap.size ns.length (eu.take k) W ak k))) (J:=af 57 (a2 (k6 w.heap.size ns.length (eu.take k++[eu[k]]) W ak (k+1)))) (jx _ (iz ⟨PJ,rfl,rfl,PJ,PJ,PJ,PJ⟩)) (jx _ (iz ⟨rfl,rfl,PJ,PJ,PJ,PJ⟩)) (D_.aU ⟨rfl,rfl,rfl,rfl,rfl,rfl,PJ⟩) (λW1 q c=>vC A a7 z (p _ e).1 (p _ e).2 (λx h=>(p x (List.mem_of_mem_take h)).2) f.defers q C.1 C.2 c) λbO y N AI Lm F=>?_;rw[List.take_append_getElem AP]at F;exact T (k+1) AP bO y N R L AP AI Lm F
 have H:=Held.start (n0:=w.heap.size) E JT (a:=⟨#[be,.slice bK ns.length cap,.agg #[.I W,.I ak]]++Array.replicate 54 undef,[]⟩) (t.append (GJ _ _)) rfl;exact Ol nJ D o g H (k':=t9 f20) AJ AJ (s:=0) (s':=17) (I:=af 57 (a2 [(2,mg W ak),(3,nF)])) (J:=af 57 (a2 (k6 w.heap.size ns.length [] W ak 0))) (jx _ (iz ⟨PJ,PJ,PJ⟩)) (jx _ (iz ⟨rfl,rfl,PJ,PJ,PJ,PJ⟩)) (fu (v:=.agg #[.I W,.I ak]) Kt rfl<|fu (v:=undef) Ad rfl<|GM Ad) (λW1 q c=>atW a7 rfl q (fu (v:=be) Kt rfl<|fu (v:=.slice bK ns.length cap) Kt rfl c)) λZ M2 P X S K=>loop m 0 (vbm _) Z M2 P n Shun JT X S K
end
def auv{n0 k:Nat}:kg n0 (λ_ u=>Oj k u):=by
 rintro ρ w w' v f hc hv rfl;obtain⟨g,rfl,k⟩:=F0 (l:=[.N,.I 6,.agg #[.I _,.N]]) hv;cases k with
 |cons d k=>cases k with
  |cons c k=>cases k with
   |cons b k=>
    cases k;obtain⟨l2,rfl,k⟩:=sK (l:=[.I _,.N]) b;cases k with
    |cons a k=>cases k with
     |cons e k=>cases k;rw[om d,hO c,hO a,om e];rfl
def xA(k:Nat)(full:List aZ)(w:aS)(u:Value):Prop:=full.length<=300/\D3 full w u\/300<full.length/\Oj k u
def auw{Post:uab}{M:dh}{w:aS}{be bB:Value}{ns:List sS}{ts:List (List aG)}{eu:List (List aZ)}{full:List aZ}{W ak:Int}(t:aJ (bQ M) #[be,bB,.agg #[.I W,.I ak]] #[be,bB,.agg #[.I W,.I ak]])(ht:(dO 1 lT ts).R w be)(j:(dO 7 ou ns).R w bB)(hl:eu.length+1=ns.length)(a7:ns.length<=1000)(F:∀x∈eu,x.length<=300/\Full x)(Zd:Full full)(d:∀(k:Nat) ib x,ns[k]?=some ib->eu[k]?=some x->∀args M w,aJ (bQ M) args args->af 86 (a2 [(0,qJ ib),(1,dO 1 lT ts),(2,dO 1 qI (eu.take k)),(3,mg W ak)]) ⟨args++Array.replicate (86-args.size) undef,[]⟩ w->gi O prog Post 27 args M w 1 (λu _ w'=>(pX x).R w' u/\cy M w w'))(S:∀ib,ns[eu.length]?=some ib->∀args M w,aJ (bQ M) args args->af 86 (a2 [(0,qJ ib),(1,dO 1 lT ts),(2,dO 1 qI eu),(3,mg W ak)]) ⟨args++Array.replicate (86-args.size) undef,[]⟩ w->gi O prog Post 27 args M w 1 (λu _ w'=>(GO full).R w' u/\cy M w w')):
 gi O prog Post 20 #[be,bB,.agg #[.I W,.I ak]] M w ns.length (λu _ w'=>xA eu.length full w' u/\cy M w w'):=by
 intro n Shun hn K e7 aF aC aK aM aH csZ hc H;obtain⟨bK,cap,rfl,-,-⟩:=id j;have X:kA prog 20:=Aj func20 Kn D6;have i:eu.take eu.length=eu:=vbv JT;have E:=t.get 0 _ _ rfl rfl;have D:=t.get 1 _ _ rfl rfl;refine auu t ht j rfl AP a7 F AP K d λa' M' w' n' bJ pq V hs a=>?_;refine uX (eu:=eu) (k:=eu.length) (dF:=GO full) rfl ⟨Shun,K⟩ E D ht j a7 AP (by rw[i]) (by rw[i];exact S _ (vag _)) AP V hs (by rw[i];exact a) λY m6 P B A xG c C z=>?_;rw[i]at z;obtain⟨u,q,rs,R,Q⟩:=z.has 29 _ rfl;have g:af 57 (a2 ((29,pX rs)::(10,a5 (eu.length:Int))::k6 w.heap.size ns.length eu W ak eu.length)) Y P:=fu q Q (z.aU ⟨rfl,rfl,rfl,rfl,rfl,rfl,PJ⟩);rcases R with⟨rfl,e⟩|⟨U,T⟩
 .refine Ol nJ X (E.mono (qx c.sub)) (D.mono (qx c.sub)) c (k':=t9 f20) AJ AJ (s:=0) (s':=17) (I:=af 57 (a2 ((29,pX rs)::k6 w.heap.size ns.length eu W ak eu.length))) (J:=af 57 (a2 (k6 w.heap.size ns.length (eu++[rs]) W ak (eu.length+1:Nat)))) (jx _ (iz ⟨PJ,rfl,rfl,PJ,PJ,PJ,PJ⟩)) (jx _ (iz ⟨rfl,rfl,PJ,PJ,PJ,PJ⟩)) (g.aU ⟨rfl,rfl,rfl,rfl,rfl,rfl,PJ⟩) (λL f a=>vC rfl a7 AP e Zd (λx h=>(F x h).2) c.defers f C.1 C.2 a) λbO Z w4 N Lm g=>?_;rw[hl]at g;refine Ju nJ func20 Kn D6 N AJ hc (I:=af 57 (a2 (k6 w.heap.size ns.length (eu++[rs]) W ak ns.length))) (gZ:=D3 rs) (jx _ (iz ⟨rfl,rfl,PJ,PJ,PJ,PJ⟩)) (vW _) g (λL f a=>aue Aq AP a7 (by rw[<-hl];simp) N.defers f a) λu y er g1 r v p m l=>H u y er B A AP g1 r v p ⟨.inl ⟨e,l⟩,m.sub λb o d=>⟨o,d⟩⟩
 .exact Ju nJ func20 Kn D6 c AJ hc (I:=af 57 (a2 ((29,pX rs)::(10,a5 (eu.length:Int))::k6 w.heap.size ns.length eu W ak eu.length))) (gZ:=λ_ u=>Oj eu.length u) (jx _ (iz ⟨PJ,PJ,rfl,rfl,PJ,PJ,PJ,PJ⟩)) auv g (λL f a=>aui U c.defers f a) λu y er g1 r v p m l=>H u y er B A AP g1 r v p ⟨.inr ⟨T,l⟩,m.sub λb o d=>⟨o,d⟩⟩
end
end a3
namespace a3
open Conc ConcM RowKit ax bp cI dm bS cq
variable{v:Value}
section
variable{n0:Nat}
def Oy(n0:Nat)(T:g4)(N:Nat)(w:aS)(v:Value):Prop:=∃b cs,v=.P b 0/\n0<=b/\ai w b cs T/\cs.size=N
def auU(T:g4)(N:Nat):kg n0 (Oy n0 T N):=by rintro ρ w w' v g hc hv ⟨b,cs,rfl,hn,a,hs⟩;obtain⟨f,rfl,r⟩:=F1 hv;obtain⟨e,d,c⟩:=hc.types _ _ _ _ _ r a;exact⟨f,e,Y,hc.new _ _ r hn,d,c.trans hs⟩
def vI(ts:List (List aG))(w:aS)(v:Value):Prop:=(dO 1 lT ts).R w v
def auV(ts:List (List aG)):kg n0 (vI ts):=(dO 1 lT ts).ic n0 trivial
def Va{ρ:Ren}{w w':aS}(hc:Carry ρ w w'){k e no:Nat}(r:ρ.rel k e){op a b:Int}{ka i:uan}{n kc d:Nat}(h:vG w k no op a b ka i n kc d):∃g f,ar ρ (.slice ka n kc) (.slice g n kc)/\ar ρ (.slice i n d) (.slice f n d)/\vG w' e no op a b g f n kc d:=by have key:∀j v,(kx op a b ka i n kc d)[j]?=some v->∃l,w'.cell? (.a e (no+j))=some l/\ar ρ v l:=λj v c=>hc.cell ⟨k,no+j,none⟩ ⟨e,no+j,none⟩ v ⟨r,Y,Y⟩ (h j v c);obtain⟨E,h0,B⟩:=key 0 _ Y;obtain⟨H,q,y⟩:=key 1 _ Y;obtain⟨ed,p,x⟩:=key 2 _ Y;obtain⟨F,o,u⟩:=key 3 _ Y;obtain⟨l4,A,m⟩:=key 4 _ Y;obtain⟨D,C,s⟩:=key 5 _ Y;obtain⟨I,t,z⟩:=key 6 _ Y;rw[hO B]at h0;rw[hO y]at q;rw[hO x]at p;rw[om u]at o;rw[om z]at t;obtain⟨g,rfl⟩:=Nj m;obtain⟨f,rfl⟩:=Nj s;refine⟨g,f,m,s,λj v c=>?_⟩;match j with|0=>cases c;exact h0|1=>cases c;exact q|2=>cases c;exact p|3=>cases c;exact o|4=>cases c;exact A|5=>cases c;exact C|6=>cases c;exact t|j+7=>simp[kx]at c
def t_(k:Int)(w:aS)(v:Value):Prop:=∃dc no bD kb g9 ob hZ kc cx,v=.S dc no 3 bD/\AL w dc no k kb g9 ob hZ kc cx
def auW(k:Int):kg n0 (t_ k):=by rintro ρ w w' v E hc hv ⟨J,no,A,kb,b,ob,a,kc,t,rfl,h⟩;obtain⟨B,rfl,r⟩:=wQ hv;obtain⟨I,H,p,n,m⟩:=Va hc.cells r h.n0;obtain⟨f0,f1,l0,l1,l2⟩:=Va hc.cells r h.n1;obtain⟨F,g1,c,m1,i⟩:=Va hc.cells r h.ey;have u:=om p;have a1:=om n;have z:=om l0;have x:=om l1;cases u;cases a1;cases z;cases x;obtain⟨g,s,l⟩:=wQ c;cases s;obtain⟨f,q,j⟩:=wQ m1;cases q;obtain⟨D,d,o⟩:=hc.cells.cell ⟨kb,b,none⟩ ⟨g,b,none⟩ _ ⟨l,Y,Y⟩ h.key;obtain⟨C,e,y⟩:=hc.cells.cell ⟨ob,a,none⟩ ⟨f,a,none⟩ _ ⟨j,Y,Y⟩ h.hV;rw[hO o]at d;rw[hO y]at e;exact⟨B,no,A,g,b,f,a,kc,t,Y,m,l2,i,d,e⟩
def Vb(N:Nat)(l:uac)(w:aS)(x:Value):Prop:=∃g c v,x=.S g 0 N c/\w.cell? (.a g (N-1))=some v/\gl w v l
def auY(N:Nat)(l:uac):kg n0 (Vb N l):=by rintro ρ w w' v i hc hv ⟨g,c,x,rfl,h,f⟩;obtain⟨a,rfl,r⟩:=wQ hv;obtain⟨b,e,d⟩:=hc.cells.cell ⟨g,N-1,none⟩ ⟨a,N-1,none⟩ x ⟨r,Y,Y⟩ h;exact⟨a,c,b,Y,e,ax.aX.carry al6 hc.cells d f⟩
def OC{ρ:Ren}{w w':aS}(hc:yb n0 ρ w w'){f:Value}(hv:ar ρ v f){e:g4}(h:oV w v e):oV w' f e:=by
 intro b d;cases hv with
 |@slice a a' l c r=>simp[Value.ownBlock]at d;subst d;obtain⟨c,z,g⟩:=h a.block Y;obtain⟨j,i,-⟩:=hc.types _ _ _ _ _ r.1 g;grind
 | _=>cases d
def OD(t:List aG):kg n0 λw v=>ke w v t:=by rintro ρ w w' v H hc hv ⟨⟨bK,cap,rfl,hl,E⟩,ht⟩;obtain⟨F,rfl⟩:=Nj hv;refine⟨⟨F,cap,Y,hl,λi hi=>?_⟩,OC hc hv ht⟩;obtain⟨b,off,rfl,bj,vs,K,h0,y,u,s,q,c,n,m,l⟩:=E i hi;obtain⟨a,e,r⟩:=wQ hv;cases e;have key:∀j x,w.cell? (.a b (off+i*5+j))=some x->∃d,w'.cell? (.a a (off+i*5+j))=some d/\ar ρ x d:=λj x p=>hc.cells.cell ⟨b,off+i*5+j,none⟩ ⟨a,off+i*5+j,none⟩ x ⟨r,Y,Y⟩ p;obtain⟨I,k,D⟩:=key 0 _ h0;obtain⟨J,g1,o⟩:=key 1 _ y;obtain⟨ed,B,h⟩:=key 2 _ u;obtain⟨z,C,g⟩:=key 3 _ s;obtain⟨l4,A,f⟩:=key 4 _ q;rw[hO D]at k;rw[hO o]at g1;exact⟨a,off,Y,ed,z,l4,k,g1,B,C,A,⟨ax.aX.carry wx hc.cells h c.fU,ax.aX.carry ME hc.cells g c.eF,ax.aX.carry MD hc.cells f c.dk⟩,OC hc h n,OC hc g m,OC hc f l⟩
def ua(t:List aG)(w:aS)(u:Value):Prop:=∃bq,u=.tuple #[.agg #[bq],.I 0,rQ]/\ke w bq t
def auZ(t:List aG):kg n0 (ua t):=by
 rintro ρ w w' v e hc hv ⟨bq,rfl,h⟩;obtain⟨f,rfl,k⟩:=F0 hv;cases k with
 |cons c k=>cases k with
  |cons b k=>cases k with
   |cons a k=>cases k;obtain⟨m,rfl,q⟩:=sK c;cases q with|cons d q=>cases q;exact⟨_,by rw[hO b,UQ a],OD t _ _ _ _ _ hc d h⟩
def vI.keeps{ts:List (List aG)}{w w':aS}(h:vI ts w v)(a:bo w w'):vI ts w' v:=aX.mono lT.mono a h
theorem t_.keeps{k:Int}{w w':aS}(h:t_ k w v)(e:bo w w'):t_ k w' v:=by obtain⟨c,no,f,kb,b,ob,a,kc,d,rfl,h⟩:=h;exact⟨c,no,f,kb,b,ob,a,kc,d,Y,h.keeps e⟩
def AM{Y:ubm}{w w':aS}(a:cJ w w'):hM Y w w':=.oR (.below a)
def ub(t:List aG)(w:aS)(v:Value):Prop:=∃bq,v=.agg #[bq]/\ke w bq t
theorem x6(t:List aG):kg n0 (ub t):=by rintro ρ w w' v b hc hv ⟨bq,rfl,h⟩;obtain⟨m,rfl,q⟩:=sK hv;cases q with|cons a q=>cases q;exact⟨_,Y,OD t _ _ _ _ _ hc a h⟩
def GY(n0:Nat)(t:List aG)(w:aS)(v:Value):Prop:=∃b bq,v=.P b 0/\n0<=b/\ai w b #[bq] 27/\ke w bq t
theorem Vd(t:List aG):kg n0 (GY n0 t):=by
 rintro ρ w w' v g hc hv ⟨b,bq,rfl,hn,d,h⟩;obtain⟨c,rfl,r⟩:=F1 hv;obtain⟨e,a,j⟩:=hc.types _ _ _ _ _ r d;obtain⟨x,i,f⟩:=hc.cells.cell ⟨b,0,none⟩ ⟨c,0,none⟩ bq ⟨r,Y,Y⟩ ((ai.rules d).1 0 |>.trans Y);have a:ai w' c e _:=a;have:e=#[x]:=by grind[ai.rules]
 subst this;exact⟨c,x,Y,hc.new _ _ r hn,a,OD t _ _ _ _ _ hc f h⟩
def Eb(t:List aG)(w:aS)(u:Value):Prop:=∃bq,u=.tuple #[.agg #[bq],.T]/\ke w bq t
def x5(t:List aG):kg n0 (Eb t):=by
 rintro ρ w w' v d hc hv ⟨bq,rfl,h⟩;obtain⟨e,rfl,k⟩:=F0 hv;cases k with
 |cons b k=>cases k with
  |cons a k=>cases k;obtain⟨m,rfl,q⟩:=sK b;cases q with|cons c q=>cases q;exact⟨_,by rw[S3 a],OD t _ _ _ _ _ hc c h⟩
def k7(n0:Nat)(T:g4)(N:Nat):bb:=⟨Oy n0 T N,λ_ _ _ hb⟨b,cs,e,h1,h2,h3⟩=>⟨b,cs,e,h1,h2.call hb,h3⟩,λn=>n=n0,λn h=>h▸auU T N⟩
def GZ(n0:Nat)(t:List aG):bb:=⟨GY n0 t,λ_ _ _ hb⟨b,bq,e,h1,h2,h3⟩=>⟨b,bq,e,h1,h2.call hb,h3.kept (AM hb)⟩,λn=>n=n0,λn h=>h▸Vd t⟩
def k8(t:List aG):bb:=⟨ub t,λ_ _ _ hb⟨bq,e,h⟩=>⟨bq,e,h.kept (AM hb)⟩,λ_=>True,λ_ _=>x6 t⟩
def qM(t:List (List aG)):bb:=⟨vI t,λ_ _ _ hb h=>h.keeps (bo.bX hb),λ_=>True,λ_ _=>auV t⟩
def qN(fs:Int):bb:=⟨t_ fs,λ_ _ _ hb h=>h.keeps (bo.bX hb),λ_=>True,λ_ _=>auW fs⟩
def Kq(N:Nat)(l:uac):bb:=⟨Vb N l,λ_ _ _ hb⟨g,c,v,e,h1,h2⟩=>⟨g,c,v,e,bo.bX hb _ _ _ h1,h2.mono px (bo.bX hb)⟩,λ_=>True,λ_ _=>auY N l⟩
def AN(t:List aG):bb:=⟨ua t,λ_ _ _ hb⟨bq,e,h⟩=>⟨bq,e,h.kept (AM hb)⟩,λ_=>True,λ_ _=>auZ t⟩
def OE(t:List aG):bb:=⟨Eb t,λ_ _ _ hb⟨bq,e,h⟩=>⟨bq,e,h.kept (AM hb)⟩,λ_=>True,λ_ _=>x5 t⟩
def Kr(rs:List aZ):bb:=⟨D3 rs,λ_ _ _ hb⟨bq,e,h⟩=>⟨bq,e,h.mono qp (bo.bX hb)⟩,λ_=>True,λ_ _=>vW rs⟩
def G0:bb:=⟨eB rQ,rC.eq _,λ_=>True,λ_ _ _ _ _ _ _ _ hv h=>by cases h;exact UQ hv⟩
def ot.kept{T:g4}{w w':aS}(h:ot T w w')(g:¬pN T):hM pN w w':=⟨h.1,λb c e z f d=>by
 obtain⟨j,a,-,i⟩:=h.2 b c e z f;rw[i λq=>g (q▸d)]at a;exact a⟩
def ot.box{T T':g4}{w w':aS}(h:ot T w w'){b:Nat}{cs:dp}(c:ai w b cs T'):∃a,ai w' b a T'/\a.size=cs.size/\(T'≠T->a=cs):=h.2 b cs T' _ c
theorem ot.set{T:g4}{w:aS}{b:Nat}{cs:dp}(d:ai w b cs T)(o:Nat)(v:Value):ot T w (w.setCell ⟨b,o,none⟩ v):=⟨by simp[World.setCell],λf c e z a=>by
 by_cases h:f=b
 .subst h;rw[show w.heap[f]?=some (.cells cs T)from d]at a;cases a;exact⟨_,d.set o v,Ad,λh=>absurd Y h⟩
 .exact⟨c,(vaq _ _ _ _ h).trans a,Y,λ_=>Y⟩⟩
theorem ot.trans{T:g4}{w w' w'':aS}(h:ot T w w')(k:ot T w' w''):ot T w w'':=⟨vad h.1 k.1,λb c e z i=>by
 obtain⟨n,m,l,j⟩:=h.2 b c e z i;obtain⟨a,g,f,d⟩:=k.2 b n e z m;exact⟨a,g,f.trans l,λq=>(d q).trans (j q)⟩⟩
abbrev zi(T:g4):Prop:=T=27\/T=43
def OF{T:g4}(h:zi T):¬pN T:=by rcases h with rfl|rfl<;>simp[pN]
section
variable{T T':g4}{N:Nat}
def G1:m4 T (k7 n0 T' N):=λw w' v h⟨b,cs,e,g,f,d⟩=>by obtain⟨i,c,a,-⟩:=h.box f;exact⟨b,i,e,g,c,a.trans d⟩
def Ve{t:List aG}(c:T=43):m4 T (GZ n0 t):=λw w' v h⟨b,bq,e,i,g,f⟩=>by obtain⟨k,a,j,d⟩:=h.box g;rw[d (by rw[c];decide)]at a;exact⟨b,bq,e,i,a,f.kept (h.kept (OF (.inr c)))⟩
def x3(d:T=27):m4 T (AG n0):=λw w' v h⟨b,e,g,f⟩=>by obtain⟨j,a,i,c⟩:=h.box f;rw[c (by rw[d];decide)]at a;exact⟨b,e,g,a⟩
def xZ{t:List aG}(a:zi T):m4 T (k8 t):=λw w' v h⟨bq,e,b⟩=>⟨bq,e,b.kept (h.kept (OF a))⟩
def xO{t:List aG}(a:zi T):m4 T (AN t):=λw w' v h⟨bq,e,b⟩=>⟨bq,e,b.kept (h.kept (OF a))⟩
def xH{o:Oper}{x y:uar}{ev:uak}{w:aS}{t:List aG}(e:o.op=.store 27 x y)(g:Oy n0 27 1 w (ev x))(f:ub t w (ev y)):∃w',(execOp ev o).run (ae prog true) w=.ok .skip w'/\ot 27 w w'/\Below n0 w w'/\GY n0 t w' (ev x):=by
 obtain⟨b,cs,h,hn,c,hs⟩:=g;obtain⟨bq,r,a⟩:=f;obtain⟨⟨i,j,rfl,-,-⟩,-⟩:=id a;obtain⟨q,rfl⟩:∃q,cs=#[q]:=by obtain⟨l⟩:=cs;match l,hs with| [q],_=>grind
 have d:=ot.set c 0 (.slice i t.length j);refine⟨_,?_,d,(vaa n0 w).setCell (p:=⟨b,0,none⟩) hn _,b,_,h,hn,c.set 0 _,a.kept (d.kept (OF J1))⟩;obtain⟨n,m,k⟩:=c.all;clear a d c;cases o;simp only at e;subst e;go_simp
def Vf{o:Oper}{x y:uar}{ev:uak}{w:aS}(d:o.op=.store 43 x y)(f:Oy n0 43 2 w (ev x))(e:ev y=rQ):∃w',(execOp ev o).run (ae prog true) w=.ok .skip w'/\ot 43 w w'/\Below n0 w w'/\Of n0 w' (ev x):=by
 obtain⟨b,cs,g,hn,a,hs⟩:=f;obtain⟨q,r,rfl⟩:∃q r,cs=#[q,r]:=by obtain⟨l⟩:=cs;match l,hs with| [q,r],_=>grind
 have c:=a.set 0 (.I 0);refine⟨_,?_,(ot.set a 0 (.I 0)).trans (ot.set c 1 (.N)),((vaa n0 w).setCell (p:=⟨b,0,none⟩) hn _).setCell (p:=⟨b,1,none⟩) hn _,b,g,hn,c.set 1 _⟩;obtain⟨j,i,h⟩:=a.all;clear c a;unfold rQ at e;cases o;simp only at d;subst d;go_simp
end
end
section
open eC
variable{O:gJ}
@[simp] theorem XA:cQ true 18:=c0 (bw (upd:=true) func18 AJ) AJ
@[simp] theorem Xz:cQ true 19:=c0 (bw (upd:=true) func19 AJ) AJ
theorem avh(W ak:Nat)(i:0<W)(h:W<=16)(g:0<ak)(f:ak<=64)(w:aS):Calls (ae prog true) 18 #[.agg #[.I W,.I ak]] w λe w'=>e=.returned (.T)/\cJ w w':=by
 have d:(1:Int)<=(W:Int):=AP;have c:(W:Int)<=16:=AP;have b:(1:Int)<=(ak:Int):=AP;have a:(ak:Int)<=64:=AP;go_enter (bw (upd:=true) func18 AJ),ntmps18
 go_wp2
 go_ret
 exact⟨Y,(vaa _ _).alloc JT _⟩
@[simp] theorem avi:cQ true 22:=c0 (bw (upd:=true) func22 AJ) AJ
@[simp] theorem avj:cQ true 21:=c0 (bw (upd:=true) func21 AJ) AJ
theorem avk:cQ true 30:=c0 (bw (upd:=true) Tryz.func30 AJ) AJ
def avl(a:dp)(w:aS):Sem.run (ae prog true) (callFunc 29 a) w=.ok (.enter 29 a) w:=c0 (bw (upd:=true) Tryz.func29 AJ) AJ a w
def avm(a:uan)(c cc:Nat)(w:aS):Calls (ae prog true) 22 #[.slice a c cc] w λe w'=>∃b,e=.returned (.func (.func 30) #[] #[.P b 0])/\w'.cell? (.a b 0)=some (.slice a c cc)/\cJ w w':=by
 go_enter (bw (upd:=true) func22 AJ),ntmps22
 go_wp2
 go_ret
 exact⟨_,Y,mj (vaz w _) Y Y,(vaa _ w).alloc JT _⟩
def avn(f c:Int)(g:Nat)(lb:dp)(w:aS):Calls (ae prog true) 21 #[.func (.func g) #[] lb,.I f,.I c] w λe w'=>∃b1 b a,e=.returned (.func (.func 29) #[] #[.P b1 0,.P b 0,.P a 0])/\w'.cell? (.a b1 0)=some (.func (.func g) #[] lb)/\w'.cell? (.a b 0)=some (.I f)/\w'.cell? (.a a 0)=some (.I c)/\cJ w w':=by
 go_enter (bw (upd:=true) func21 AJ),ntmps21
 go_wp2
 go_ret
 refine⟨_,_,_,Y,qK (qK (mj (vaz w _) Y Y) _) _,?_,?_,(((vaa _ w).alloc JT _).alloc Ad _).alloc Aq _⟩
 .grind[qK,World.alloc_heap_new,World.size_alloc,mj]
 grind[World.alloc_heap_new,World.size_alloc,mj]
def AQ(N:Nat)(l:uac):bb:=⟨λw u=>∃x,u=.tuple #[x,.I 0,.I 0]/\Vb N l w x,λ_ _ _ hb⟨x,e,h⟩=>⟨x,e,(Kq N l).fZ _ _ _ hb h⟩,λ_=>False,λ_ h=>h.elim⟩
def avo(l:uac):bb:=⟨λw v=>gl w v l,λ_ _ _ hb h=>h.mono px (bo.bX hb),λ_=>False,λ_ h=>h.elim⟩
def Vn(rs:List aZ):bb:=⟨λw v=>fG w v rs,λ_ _ _ hb h=>h.mono qp (bo.bX hb),λ_=>False,λ_ h=>h.elim⟩
def qm(rs:List aZ)(w:aS)(v:Value):Prop:=∃b x,v=.func (.func 30) #[] #[.P b 0]/\w.cell? (.a b 0)=some x/\fG w x rs
def ql(rs:List aZ):bb:=⟨qm rs,λ_ _ _ hb⟨b,x,e,h1,h2⟩=>⟨b,x,e,bo.bX hb _ _ _ h1,h2.mono qp (bo.bX hb)⟩,λ_=>False,λ_ h=>h.elim⟩
def avp(f c:Nat)(rs:List aZ):bb:=⟨λw v=>∃b1 b2 bZ x,v=.func (.func 29) #[] #[.P b1 0,.P b2 0,.P bZ 0]/\w.cell? (.a b1 0)=some x/\w.cell? (.a b2 0)=some (.I (f:Int))/\w.cell? (.a bZ 0)=some (.I (c:Int))/\qm rs w x,λ_ _ _ hb⟨b1,b2,bZ,x,e,h1,h2,h3,h⟩=>⟨b1,b2,bZ,x,e,bo.bX hb _ _ _ h1,bo.bX hb _ _ _ h2,bo.bX hb _ _ _ h3,(ql rs).fZ _ _ _ hb h⟩,λ_=>False,λ_ h=>h.elim⟩
section
variable{N:Nat}{K:bL}{o o2:Oper}{F:bb}{x y:uar}
def qe(a:o.op=.alloc 43)(ev:uak)(w:aS):(execOp ev o).run (ae prog true) w=.ok (.value (.P w.heap.size 0)) (w.alloc (.cells #[.I 0,.N] 43)):=by cases o;simp only at a;subst a;go_simp
def avq(a:o.op=.alloc 27)(ev:uak)(w:aS):(execOp ev o).run (ae prog true) w=.ok (.value (.P w.heap.size 0)) (w.alloc (.cells #[.N] 27)):=by cases o;simp only at a;subst a;go_simp
def Vo{B:Nat}(b:o.op=.alloc 27)(a:Act)(w:aS)(c:B<=w.heap.size):yf (ae prog true) o (k7 B 27 1) a w:=.inl ⟨_,_,avq b _ _,⟨_,_,Y,c,ai.new _ _ _,Y⟩,(vaa _ w).alloc (vac _) _⟩
def Vp{B:Nat}(b:o.op=.alloc 43)(a:Act)(w:aS)(c:B<=w.heap.size):yf (ae prog true) o (k7 B 43 2) a w:=.inl ⟨_,_,qe b _ _,⟨_,_,Y,c,ai.new _ _ _,Y⟩,(vaa _ w).alloc (vac _) _⟩
def Vq{s B:Nat}(b:o.op=.alloc 27)(hs:K s=some (rM B F)):bF (ae prog true) N K o (k7 B 27 1):=λa w hk=>by obtain⟨v,-,c,-⟩:=hk.has s _ hs;exact Vo b a w c
def p8{s B:Nat}(b:o.op=.alloc 43)(hs:K s=some (rM B F)):bF (ae prog true) N K o (k7 B 43 2):=λa w hk=>by obtain⟨v,-,c,-⟩:=hk.has s _ hs;exact Vp b a w c
def avr{m n:Int}(a:o.op=.build 62 #[(0,x),(1,y)])(e:bh K x (a5 m))(d:bh K y (a5 n)):bF (ae prog true) N K o (mg m n):=y9 e d λev w c b=>by have c:ev x=.I m:=c;have b:ev y=.I n:=b;refine⟨.agg #[.I m,.I n],w,?_,Y,vaa _ _⟩;cases o;simp only at a;subst a;go_simp
def avs{ops:eY}{i d s:Nat}{Q:uai}{rest:uaa}{a:Act}{w:aS}{m n:Int}(j:ops[i]?=some o)(h:ops[i+1]?=some o2)(c:o.op=.alloc 62)(b:o2.op=.store 62 (.tmp d) (.tmp s))(g:K s=some (mg m n))(hk:af N K a w)(hd:o.dst=some d)(f:o2.dst=none)(g1:o.guard=none)(p:o2.guard=none)(a7:d<N)(t:d≠s)(k:∀a' w1,af N (up K d (eR xb (m,n))) a' w1->a'.defers=a.defers->cJ w w1->wpOps (ae prog true) ops Q rest a' w1):wpOps (ae prog true) ops Q (i::(i+1)::rest) a w:=by
 obtain⟨v,q,rfl⟩:=hk.has s _ g;have e:cJ w (w.alloc (.cells #[.I m,.I n] 62)):=(vaa _ w).alloc JT _;have c8:=ai.new w #[.I m,.I n] 62;refine Ux (F:=eR xb (m,n)) (GD:=w.alloc (.cells #[.I 0,.I 0] 62)) j h g1 p hd f a7 t hk q (λev=>?_) (λev u x=>?_) e ⟨w.heap.size,0,Y,c8.rules.1 _,c8.rules.1 _⟩ λa' r l=>k a' _ r l e
 .cases o;simp only at c;subst c;go_simp
 .cases o2;simp only at b;subst b;go_simp
def avt{n:Nat}{l:uac}(a:o.op=.extract x 0)(b:bh K x (AQ n l)):bF (ae prog true) N K o (Kq n l):=eb b λev w h=>by obtain⟨v,e,h⟩:=h;refine⟨v,w,?_,h,vaa _ _⟩;clear h;cases o;simp only at a;subst a;go_simp
def pS{n k:Nat}{l:uac}(a:o.op=.extract x k)(b:bh K x (AQ n l))(hk:k=1\/k=2):bF (ae prog true) N K o (a5 0):=eb b λev w h=>by obtain⟨v,e,h⟩:=h;refine⟨.I 0,w,?_,Y,vaa _ _⟩;clear h;cases o;simp only at a;subst a;rcases hk with rfl|rfl<;>go_simp
def avu{rs:List aZ}(a:o.op=.extract x 0)(b:bh K x (Kr rs)):bF (ae prog true) N K o (Vn rs):=eb b λev w h=>by obtain⟨v,e,h⟩:=h;refine⟨v,w,?_,h,vaa _ _⟩;clear h;cases o;simp only at a;subst a;go_simp
def avv{rs:List aZ}(a:o.op=.extract x 1)(b:bh K x (Kr rs)):bF (ae prog true) N K o (a5 0):=eb b λev w h=>by obtain⟨v,e,h⟩:=h;refine⟨.I 0,w,?_,Y,vaa _ _⟩;clear h;cases o;simp only at a;subst a;go_simp
def avw{rs:List aZ}(a:o.op=.extract x 2)(b:bh K x (Kr rs)):bF (ae prog true) N K o G0:=eb b λev w h=>by obtain⟨v,e,h⟩:=h;refine⟨rQ,w,?_,Y,vaa _ _⟩;clear h;cases o;simp only at a;subst a;go_simp
def pI{m:Int}{T':g4}(a:o.op=.binOp .neq 41 x y T')(c:bh K x (a5 m))(b:bh K y (a5 m)):bF (ae prog true) N K o (dV false):=y_ c b (λ_=>Y) λev w e d=>by cases o;simp only at a;subst a;go_simp
def pF(l:uac):bb:=⟨λw v=>∃g k x,v=.P g k/\w.cell? (.a g k)=some x/\gl w x l,λ_ _ _ hb⟨g,k,x,e,h1,h2⟩=>⟨g,k,x,e,bo.bX hb _ _ _ h1,h2.mono px (bo.bX hb)⟩,λ_=>False,λ_ h=>h.elim⟩
def avx{n:Nat}{l:uac}(a:o.op=.indexAddr 63 x y)(f:bh K x (Kq n l))(e:bh K y (a5 ((n-1:Nat):Int)))(hn:0<n):bF (ae prog true) N K o (pF l):=y9 f e λev w h d=>by obtain⟨g,c,v,k,i,b⟩:=h;have d:ev y=.I ((n-1:Nat):Int):=d;have j:((n-1:Nat):Int)<(n:Int):=AP;refine⟨.P g (n-1),w,?_,⟨g,n-1,v,Y,i,b⟩,vaa _ _⟩;clear b;cases o;simp only at a;subst a;go_simp
def avy{l:uac}(a:o.op=.load 78 x)(c:bh K x (pF l)):bF (ae prog true) N K o (avo l):=eb c λev w h=>by obtain⟨g,k,v,e,d,b⟩:=h;refine⟨v,w,?_,b,vaa _ _⟩;clear b;cases o;simp only at a;subst a;go_simp
def avz(a:o.op=.build 43 #[]):bF (ae prog true) N K o G0:=vD a
def avA{n:Nat}{l:uac}{T:g4}(a:o.op=.call {callee:=.builtin .len,args:=#[x],argTypes:=#[T]})(b:bh K x (Kq n l))(d:T=63):bF (ae prog true) N K o (a5 n):=eb b λev w h=>by obtain⟨g,c,v,e,-,-⟩:=h;subst d;refine⟨.I n,w,?_,Y,vaa _ _⟩;cases o;simp only at a;subst a;go_simp
end
end
variable{bB be:Value}
section
open eC
variable{O:gJ}
def pB{F:Func}{ops:eY}{n0 N i xa sa xi AR sb:Nat}{y:uar}{K:bL}{a:Act}{w:aS}{ks:il}{f:List aG}(hk:af N K a w)(hd:a.defers=[])(e:K xa=some (k7 n0 27 1)/\K sa=some (k8 f)/\K AR=some (k7 n0 43 2)/\K sb=some G0)(j:bh K y (a5 0))(Q:∃c o2 b,(ops[i]?=some c/\c.op=.store 27 (.tmp xa) (.tmp sa)/\c.guard=none/\c.dst=none)/\(ops[i+1]?=some o2/\o2.op=.assign y/\o2.guard=none/\o2.dst=some xi)/\ops[i+2]?=some b/\b.op=.store 43 (.tmp AR) (.tmp sb)/\b.guard=none/\b.dst=none)(g:xi<N/\xi≠xa/\xi≠AR/\xi≠sb)(o:∀(tmps:dp)(w:aS) ba d bq,tmps[xa]?=some (.P ba 0)->tmps[xi]?=some (.I 0)->tmps[AR]?=some (.P d 0)->ai w ba #[bq] 27->ai w d #[.I 0,.N] 43->(results F tmps).run (ae prog true) w=.ok (.tuple #[.agg #[bq],.I 0,rQ]) w):
 rA (ae prog true) F (.R ops (List.range' i 3):: .code .ret::ks) (λv w1=>ua f w1 v/\Below n0 w w1) a w:=by
 obtain⟨c,o2,b,⟨E,D,C,B⟩,⟨L,M,A,z⟩,r1,x,u,S⟩:=Q;obtain⟨m,a1,O⟩:=hk.has xa _ e.1;obtain⟨vs,b1,P⟩:=hk.has sa _ e.2.1;obtain⟨n,c1,bH⟩:=hk.has AR _ e.2.2.1;obtain⟨k,d1,I⟩:=hk.has sb _ e.2.2.2;have j:a.eval y=.I 0:=hk.ev j;obtain⟨w1,s,r,q,l⟩:=xH (n0:=n0) (t:=f) (ev:=a.eval) D (by rw[d_ a1];exact O) (by rw[d_ b1];exact P);have f1:(a.put (some xi) (.I 0)).tmps[xa]?=some m:=(fY g.2.1).trans a1;have ir:(a.put (some xi) (.I 0)).tmps[AR]?=some n:=(fY g.2.2.1).trans c1;have f3:(a.put (some xi) (.I 0)).tmps[sb]?=some k:=(fY g.2.2.2).trans d1;obtain⟨h,u1,u2,u3,u4⟩:=Vf (n0:=n0) (w:=w1) (ev:=(a.put (some xi) (.I 0)).eval) x (by rw[d_ ir];exact G1 w w1 n r bH) (by rw[d_ f3];exact I);rw[d_ a1]at l;rw[d_ ir]at u4;have p:=Ve (n0:=n0) (t:=f) Y w1 h m u2 l;obtain⟨ba,bq,rfl,-,J,ed⟩:=p;obtain⟨d,rfl,-,H⟩:=u4;refine Cv (ks':=.code .ret::ks) (ye (kh (R:=λa' w'=>a=a'/\w1=w') (tV E C B s ⟨Y,Y⟩) ?_));rintro _ _ ⟨rfl,rfl⟩;refine kh (R:=λa' w'=>a'=a.put (some xi) (.I 0)/\w1=w') (rD L A z (GL M j _) ⟨Y,Y⟩) ?_;rintro _ _ ⟨rfl,rfl⟩;refine kh (R:=λa' w'=>a'=a.put (some xi) (.I 0)/\h=w') (tV r1 u S u1 ⟨Y,Y⟩) ?_;rintro _ _ ⟨rfl,rfl⟩;exact rE (kf (Nf ((put_defers _ _ _).trans hd) (o _ h ba d bq f1 (mY (by rw[hk.size];exact g.1)) ir J H) ⟨⟨bq,Y,ed⟩,q.trans (u3)⟩))
def Ed(F:Func):Code:=.seq (.seq (.region 8 (av F 8) false) (.cond (.tmp 60) (.seq (.region 9 (av F 9) true) .ret) .skip)) (.seq (.region 10 (av F 10) false) (.seq (.region 11 (av F 11) false) .ret))
def Vr(F:Func):Code:=.seq (.region 0 (av F 0) false) (.seq (.region 1 (av F 1) false) (.seq (.seq (.region 2 (av F 2) false) (.cond (.tmp 35) (.seq (.region 3 (av F 3) false) .ret) .skip)) (.seq (.region 4 (av F 4) false) (.seq (.seq (.region 5 (av F 5) false) (.cond (.tmp 46) (.seq (.region 6 (av F 6) false) .ret) .skip)) (.seq (.region 7 (av F 7) false) (Ed F))))))
theorem Vs:f9.body=some (Vr f9):=by kernel_rfl
def OG:iK prog true f9=true:=by decide+kernel
def avC:∃o ats,(av f9 7)[3]?=some o/\o.op=.call {callee:=.value (.func 20),args:=#[.tmp 52,.tmp 53,.tmp 54],argTypes:=ats}/\o.guard=none/\o.dst=some 55:=⟨_,_,Y,Y,Y,Y⟩
def avD:∃b o2 a,((av f9 11)[9]?=some b/\b.op=.store 27 (.tmp 12) (.tmp 76)/\b.guard=none/\b.dst=none)/\((av f9 11)[9+1]?=some o2/\o2.op=.assign (.const (.I 0))/\o2.guard=none/\o2.dst=some 13)/\(av f9 11)[9+2]?=some a/\a.op=.store 43 (.tmp 14) (.tmp 77)/\a.guard=none/\a.dst=none:=⟨_,_,_,⟨Y,Y,Y,Y⟩,⟨Y,Y,Y,Y⟩,Y,Y,Y,Y⟩
def jl(f c:Nat)(rs:List aZ):List aZ:=(rs.drop f).take c
def pz{f c:Nat}{rs:List aZ}{r:aZ}(h:r∈jl f c rs):r∈rs:=List.mem_of_mem_drop (List.mem_of_mem_take h)
def G3(f c:Nat)(rs:List aZ):(jl f c rs).length=min c (rs.length-f):=by simp[jl]
def avE{f c:Nat}{rs:List aZ}{w0:aS}{t:Nat}{W:aS}{x:Value}(ht:t<min c (rs.length-f))(h:Cf w0 rs (f+t) W x):Cf w0 (jl f c rs) t W x:=by
 obtain⟨h0,d,pc,g,i,rfl,b,a⟩:=h;have e:(jl f c rs)[t]'(by rw[G3];exact ht)=rs[f+t]:=by simp[jl]
 exact⟨by rw[G3];exact ht,d,pc,g,i,H0,by rw[e];exact b,a⟩
def avF{n f c b b1 d a:Nat}{rs:List aZ}{y:Value}{w:aS}(p:f<=1000000)(hc:c<=9223372036854775807)(s:rs.length<=1000)(o:fG w y rs)(j:w.cell? (.a b 0)=some y)(m:w.cell? (.a b1 0)=some (.func (.func 30) #[] #[.P b 0]))(l:w.cell? (.a d 0)=some (.I (f:Int)))(k:w.cell? (.a a 0)=some (.I (c:Int))):
 Ac ru n (ae prog true) 29 #[.P b1 0,.P d 0,.P a 0] (Cf w (jl f c rs)) (jl f c rs).length w.heap.size w:=by
 rw[G3];refine Ac.mono (anp f c b1 d a w p hc (λn=>ank AP rs y b w o AP j) avk (λt W x h=>?_) (λt W W' x hk h=>?_) AP m l k) λt W x ht h=>avE ht h
 .obtain⟨_,e,pc,g,i,rfl,-,-⟩:=h;exact⟨_,_,_,_,_,_,Y⟩
 .obtain⟨h0,e,pc,g,i,rfl,r,q⟩:=h;exact⟨h0,e,pc,g,i,Y,r,λ_ _ _ hc=>Ch hk (q _ _ _ hc)⟩
section
variable{f7 f8:bb}{n0 mE ig ii:Nat}{l:uac}{W ak:Nat}{rs:List aZ}{a:Act}{w:aS}
abbrev OJ(ig ii:Nat)(f7 f8:bb)(n0 mE:Nat)(l:uac)(W ak:Nat):List (Nat×bb):=[(4,a5 (ig:Int)),(5,a5 (ii:Int)),(12,k7 n0 27 1),(14,k7 n0 43 2),(16,Kq mE l),(52,f7),(53,f8),(54,mg W ak)]
def avG(S:∀w be bB,f7.R w be->f8.R w bB->Calls (ae prog true) 19 #[be,bB] w λe w'=>∃v,e=.returned v/\(AQ mE l).R w' v/\cJ w w')(H:0<W)(E:W<=16)(D:0<ak)(C:ak<=64)(hd:a.defers=[])(hn:n0<=w.heap.size)(hk:af 78 (a2 [(0,f7),(1,f8),(2,a5 W),(3,a5 ak),(4,a5 (ig:Int)),(5,a5 (ii:Int)),(77,nF)]) a w):
 bI (ae prog true) [.code (Vr f9)] (.R (av f9 7) (3::List.range' 4 8)::[.code (Ed f9)]) (λa1 w1=>a1.defers=[]/\af 78 (a2 (OJ ig ii f7 f8 n0 mE l W ak)) a1 w1/\Below n0 w w1) a w:=by
 obtain⟨u,b,A⟩:=hk.has 77 _ rfl;have hk:=fu (F:=rM n0 nF) b ⟨hn,A⟩ hk;unfold Vr;refine bm ?_;rw[fk (av f9 0)];refine cD hk (aq rfl (Vq (s:=77) rfl rfl)<|aq rfl (df (F:=a5 0) rfl Jd)<|aq rfl (p8 (s:=77) rfl rfl)<|rfl) λa1 w1 z d1 b1=>bm ?_;rw[fk (av f9 1)];refine GF (m:=3) z (aq rfl JU<|aq rfl JU<|aq rfl (avr rfl rfl rfl)<|rfl) AX λbc V y P R=>avs rfl rfl rfl rfl rfl y rfl rfl rfl rfl AX AX λbz U x O Q=>rE (bm (bm ?_));rw[fk (av f9 2)];refine cD x (aq rfl (Ke rfl rfl)<|aq rfl (J_ (F:=dV true) rfl XA rfl λv w h=>by cases h;exact(avh W ak H E D C w).mono λe w'⟨q,B⟩=>⟨_,q,rfl,B⟩)<|aq rfl (AC rfl rfl)<|aq rfl JU<|eV rfl JU<|eV rfl (vE (n:=0) rfl rfl Jd AX AP)<|aq rfl (ki (c:=false) rfl rfl rfl)<|aq rfl JU<|eV rfl JU<|eV rfl (vE (n:=0) rfl rfl Jd AX AP)<|aq rfl (ki (c:=false) rfl rfl rfl)<|rfl) λbO T d N a8=>fj (t:=false) (zh d rfl rfl) (lN (bm ?_));rw[fk (av f9 4)];refine cD d (aq rfl JU<|aq rfl JU<|aq rfl (Ka (F:=AQ mE l) rfl Xz rfl rfl λv u w r1 p=>S w v u r1 p)<|aq rfl JU<|aq rfl (avt rfl rfl)<|aq rfl (pS rfl rfl AX)<|aq rfl (pS rfl rfl AX)<|aq rfl Jq<|aq rfl Jq<|aq rfl Jq<|rfl) λdz er J M bt=>bm (bm ?_);rw[fk (av f9 5)];refine cD J (aq rfl JU<|aq rfl (pI rfl rfl Jd)<|rfl) λZ jf f L I=>fj (t:=false) (zh f rfl rfl) (lN (bm (sI ?_)));rw[fk (av f9 7)];refine(show bI _ (.R _ (List.range' 0 (3+9))::_) _ _ _ _ from rP f (aq rfl JU<|aq rfl JU<|aq rfl (Ke rfl rfl)<|rfl) AX λY X r K cK=>kf ⟨K.trans (L.trans (M.trans (N.trans (O.trans (P.trans (d1.trans hd)))))),r.aU ⟨rfl,rfl,rfl,rfl,rfl,rfl,rfl,rfl,PJ⟩,?_⟩);have o:=b1.trans (R.mono b1.size);have k:=o.trans (Q.mono o.size);have j:=k.trans (a8.mono k.size);have i:=j.trans (bt.mono j.size);have g:=i.trans (I.mono i.size);exact(g.trans (cK.mono g.size)).mono hn
def avI(GV:ig<=1000000)(Az:ii<=9223372036854775807)(zE:0<mE/\mE<=1000)(hl:l.length<=1000)(wV:rs.length<=1000)(hlen:∀r∈rs,r.2.length=l.length)(AO:∀r∈rs,∀d∈r.2,d.text.size<=1000000)(hd:a.defers=[])(hn:n0<=w.heap.size)(hk:af 78 (up (a2 (OJ ig ii f7 f8 n0 mE l W ak)) 55 (Kr rs)) a w):
 rA (ae prog true) f9 (.R (av f9 7) (List.range' 4 8)::[.code (Ed f9)]) (λv w1=>ua (kz l (jz (jl ig ii rs)) (jl ig ii rs).length) w1 v/\Below n0 w w1) a w:=by
 have key:bI (ae prog true) (.R (av f9 7) (List.range' 4 8)::[.code (Ed f9)]) [.R (av f9 11) (List.range' 9 3),.code .ret] (λa1 w1=>a1.defers=[]/\af 78 (a2 [(12,k7 n0 27 1),(14,k7 n0 43 2),(76,k8 (kz l (jz (jl ig ii rs)) (jl ig ii rs).length)),(77,G0)]) a1 w1/\Below n0 w w1) a w:=by
  rw[fk (av f9 7)];refine(show bI _ (.R _ (List.range' 4 (4+4))::_) _ _ _ _ from rP hk (aq rfl JU<|aq rfl (avu rfl rfl)<|aq rfl (avv rfl rfl)<|aq rfl (avw rfl rfl)<|rfl) AX λa1 w1 m d1 b1=>ye ?_);obtain⟨v56,P,O⟩:=m.has 56 _ rfl;obtain⟨v57,N,M⟩:=m.has 57 _ rfl;obtain⟨v58,L,K⟩:=m.has 58 _ rfl;obtain⟨o,U,qW,SI,J⟩:∃o,(av f9 7)[11]?=some o/\o.op=.store 43 (.tmp 20) (.tmp 58)/\o.guard=none/\o.dst=none:=⟨_,rfl,rfl,rfl,rfl⟩;rw[fk (av f9 7)]at U;refine kh (R:=λa' w'=>a'=a1.put (some 20) (.P w1.heap.size 0)/\w'=w1.alloc (.cells #[.I 0,.N] 43)) (rD rfl rfl rfl (qe rfl _ _) ⟨rfl,rfl⟩) ?_;rintro bc k ⟨rfl,z⟩;refine kh (R:=λa' w'=>a'=(a1.put (some 20) (.P w1.heap.size 0)).put (some 19) v56/\k=w') (rD (v:=v56) rfl rfl rfl (GL rfl (d_ ((fY AX).trans P)) _) ⟨rfl,rfl⟩) ?_;rintro _ _ ⟨rfl,rfl⟩;refine kh (R:=λa' w'=>a'=((a1.put (some 20) (.P w1.heap.size 0)).put (some 19) v56).put (some 17) v57/\k=w') (rD (v:=v57) rfl rfl rfl (GL rfl (d_ ((fY AX).trans ((fY AX).trans N))) _) ⟨rfl,rfl⟩) ?_;rintro p _ ⟨q,rfl⟩;have Ef:p.tmps[20]?=some (.P w1.heap.size 0):=by rw[q];exact(fY AX).trans ((fY AX).trans (mY (by rw[m.size];decide)))
  have I:p.tmps[58]?=some v58:=by rw[q];exact(fY AX).trans ((fY AX).trans ((fY AX).trans L))
  obtain⟨S,fx,-,g8,-⟩:=Vf (n0:=w1.heap.size) (ev:=p.eval) (w:=k) qW (by rw[d_ Ef,z];exact⟨_,_,rfl,vac _,ai.new _ _ _,rfl⟩) (by rw[d_ I];exact K);have j:cJ w1 S:=((vaa _ w1).alloc JT _).trans (z▸g8);refine kh (R:=λa' w'=>p=a'/\S=w') (tV U SI J fx ⟨rfl,rfl⟩) ?_;rintro _ _ ⟨rfl,rfl⟩;have T:=((m.put (s:=20) (F:=atv) (v:=.P w1.heap.size 0) AX j trivial).put (s:=19) (F:=Vn rs) AX (vaa _ _) ((Vn rs).fZ _ _ _ j O)).put (s:=17) (F:=a5 0) AX (vaa _ _) M;rw[<-q]at T;have d4:p.defers=a.defers:=by rw[q,put_defers,put_defers,put_defers];exact d1
  refine rE ?_;unfold Ed;refine bm (bm ?_);rw[fk (av f9 8)];refine cD T (aq rfl JU<|aq rfl (pI rfl rfl Jd)<|rfl) λdz er Z d5 bt=>fj (t:=false) (zh Z rfl rfl) (lN (bm ?_));rw[fk (av f9 10)];refine cD Z (aq rfl JU<|aq rfl (J_ (F:=ql rs) rfl avi rfl λv w r1=>by
   obtain⟨fm,cc,rfl,-,-⟩:=id r1;exact(avm _ _ _ w).mono λe w'⟨b,h,g,c⟩=>⟨_,h,⟨b,_,rfl,g,aX.mono qp (bo.bX c) r1⟩,c⟩)<|aq rfl JU<|aq rfl JU<|aq rfl (Oc (F:=avp ig ii rs) rfl avj λa w hk=>by
   obtain⟨v,E,b,x,rfl,r1,A⟩:=hk.has 65 _ rfl;obtain⟨v2,H,rfl⟩:=hk.has 66 _ rfl;obtain⟨v3,B,rfl⟩:=hk.has 67 _ rfl;rw[show(#[Operand.tmp 65,.tmp 66,.tmp 67].map a.eval)=#[.func (.func 30) #[] #[.P b 0],.I (ig:Int),.I (ii:Int)]from by simp[d_ E,d_ H,d_ B]];exact(avn _ _ _ _ w).mono λe w'⟨b1,b2,j,h,g,c,D,Q⟩=>⟨_,h,⟨b1,b2,j,_,rfl,g,c,D,b,x,rfl,bo.bX Q _ _ _ r1,aX.mono qp (bo.bX Q) A⟩,Q⟩)<|aq rfl Jq<|rfl) λjw jf ie d6 ea=>bm (sI ?_)
  rw[fk (av f9 11)];have UX:((mE:Int)-1)=((mE-1:Nat):Int):=AP;refine(show bI _ (.R _ (List.range' 0 (9+3))::_) _ _ _ _ from rP ie (aq rfl JU<|aq rfl JU<|aq rfl (avA rfl rfl rfl)<|aq rfl (z8 (n:=1) rfl rfl Jd Bu AX)<|aq rfl (avx rfl rfl (by rw[<-UX];rfl) zE.1)<|aq rfl (avy rfl rfl)<|aq rfl JU<|aq rfl (Ka (F:=k8 (kz l (jz (jl ig ii rs)) (jl ig ii rs).length)) rfl au1 rfl rfl λv u w r1 A=>by
   obtain⟨b1,b2,j,x,rfl,p1,p2,p3,b,y,rfl,p4,kC⟩:=A;exact(au5 l v (jl ig ii rs) w r1 hl (by rw[G3];omega) (λr C=>hlen r (pz C)) (λr C=>AO r (pz C)) avl λn=>avF GV Az wV kC p4 p1 p2 p3).mono λe w'⟨bq,h,g,c⟩=>⟨_,h,⟨bq,rfl,g⟩,c⟩)<|aq rfl (avz rfl)<|rfl) AX λnC uW mh d7 cK=>kf ⟨d7.trans (d6.trans (d5.trans (d4.trans hd))),mh.aU ⟨rfl,rfl,rfl,rfl,PJ⟩,?_⟩)
  have X:=b1.trans (j.mono b1.size);have Y:=X.trans (bt.mono X.size);have V:=Y.trans (ea.mono Y.size);exact(V.trans (cK.mono V.size)).mono hn
 refine Cv (ks':=[.R (av f9 11) (List.range' 9 3),.code .ret]) λb cs=>?_;obtain⟨a1,w1,⟨h,g,c⟩,D⟩:=key b cs;refine⟨a1,w1,λf cs hf=>?_,D⟩;obtain⟨v,k,fr,⟨E,H⟩,B,q4⟩:=pB (F:=f9) (ks:=[]) (i:=9) (xa:=12) (sa:=76) (xi:=13) (AR:=14) (sb:=77) (y:=.const (.I 0)) g h ⟨rfl,rfl,rfl,rfl⟩ Jd avD AX (λtmps w ba ux bq e1 z e3 c9 ed=>by simp[results,results9,go_sem,rQ,e1,z,e3,c9.rules.1,ed.rules.1]) f cs hf;exact⟨v,k,fr,⟨E,c.trans H⟩,B,q4⟩
def avR{dF Fr:bb}(hg:dF.ok=λ_=>True)(t:Fr.ok=λ_=>True){Post:uab}{M:dh}{d:Nat}(m:∀n,f7.ok n)(k:∀n,f8.ok n)(D:aJ (bQ M) #[be,bB] #[be,bB])(s:f7.R w be)(r:f8.R w bB)(C:0<W)(B:W<=16)(A:0<ak)(z:ak<=64)(H:∀w be bB,f7.R w be->f8.R w bB->Calls (ae prog true) 19 #[be,bB] w λe w'=>∃v,e=.returned v/\(AQ mE l).R w' v/\cJ w w')(F:∀M w be bB,aJ (bQ M) #[be,bB,.agg #[.I W,.I ak]] #[be,bB,.agg #[.I W,.I ak]]->f7.R w be->f8.R w bB->gi O prog Post 20 #[be,bB,.agg #[.I W,.I ak]] M w d (λu _ w'=>dF.R w' u/\cy M w w'))(q:∀(n0:Nat) a c,a.defers=[]->n0<=c.heap.size->af 78 (up (a2 (OJ ig ii f7 f8 n0 mE l W ak)) 55 dF) a c->rA (ae prog true) f9 (.R (av f9 7) (List.range' 4 8)::[.code (Ed f9)]) (λv w1=>Fr.R w1 v/\Below n0 c w1) a c):
 gi O prog Post 9 #[be,bB,.I W,.I ak,.I (ig:Int),.I (ii:Int)] M w d (λu _ w'=>Fr.R w' u/\cy M w w'):=by
 obtain⟨o,ats,y⟩:=avC;refine w6 (N:=78) (l0:=[(0,f7),(1,f8),(2,a5 W),(3,a5 ak),(4,a5 (ig:Int)),(5,a5 (ii:Int)),(77,nF)]) (l1:=OJ ig ii f7 f8 w.heap.size mE l W ak) (dF:=dF) (Fr:=Fr) nJ func9 OG Vs ?_ ?_ ⟨m _,k _,PJ,PJ,PJ,PJ,PJ,PJ⟩ ⟨PJ,PJ,Y,Y,PJ,m _,k _,PJ,PJ⟩ (by rw[hg];trivial) (by rw[t];trivial) AJ (ks:=[.code (Ed f9)]) AJ y AX func20 Ah D6 (λa c hd hn hk=>avG H C B A z hd hn hk) (λa E w1 Shun I hk h=>?_) (λa c hd hn hk=>q _ a c hd hn hk)
 .exact aJ.append (a:=#[be,bB]) (b:=#[.I W,.I ak,.I (ig:Int),.I (ii:Int)]) D (og (l:=[.I W,.I ak,.I (ig:Int),.I (ii:Int)]) λx f=>by
   simp at f;rcases f with rfl|rfl|rfl|rfl<;>exact .int _ _)
 .exact fu (v:=be) Kt s<|fu (v:=bB) Kt r<|fu (v:=.I W) Kt Y<|fu (v:=.I ak) Kt Y<|fu (v:=.I (ig:Int)) Kt Y<|fu (v:=.I (ii:Int)) Kt Y<|fu (v:=undef) (by simp[f9]) Y<|GM (by simp[f9])
 .obtain⟨v52,i,r1⟩:=hk.has 52 _ Y;obtain⟨v53,j,p⟩:=hk.has 53 _ Y;obtain⟨v54,g,rfl⟩:=hk.has 54 _ Y;rw[show(#[Operand.tmp 52,.tmp 53,.tmp 54].map a.eval)=#[v52,v53,.agg #[.I W,.I ak]]from by simp[d_ i,d_ j,d_ g]];exact F E w1 v52 v53 (og (l:=[v52,v53,.agg #[.I W,.I ak]]) λx f=>by
   simp only[vbn,vcy,or_false]at f;rcases f with rfl|rfl|rfl
   .exact h.get _ _ _ i i
   .exact h.get _ _ _ j j
   .exact h.get _ _ _ g g) r1 p
def pn(s:ig<=1000000)(x:ii<=9223372036854775807){Post:uab}{M:dh}{d:Nat}(g:∀n,f7.ok n)(f:∀n,f8.ok n)(p:aJ (bQ M) #[be,bB] #[be,bB])(i:f7.R w be)(h:f8.R w bB)(o:0<W)(m:W<=16)(k:0<ak)(j:ak<=64)(b:0<mE/\mE<=1000)(hl:l.length<=1000)(c:rs.length<=1000)(hlen:∀r∈rs,r.2.length=l.length)(y:∀r∈rs,∀d∈r.2,d.text.size<=1000000)(t:∀w be bB,f7.R w be->f8.R w bB->Calls (ae prog true) 19 #[be,bB] w λe w'=>∃v,e=.returned v/\(AQ mE l).R w' v/\cJ w w')(q:∀M w be bB,aJ (bQ M) #[be,bB,.agg #[.I W,.I ak]] #[be,bB,.agg #[.I W,.I ak]]->f7.R w be->f8.R w bB->gi O prog Post 20 #[be,bB,.agg #[.I W,.I ak]] M w d (λu _ w'=>D3 rs w' u/\cy M w w')):
 gi O prog Post 9 #[be,bB,.I W,.I ak,.I (ig:Int),.I (ii:Int)] M w d (λu _ w'=>ua (kz l (jz (jl ig ii rs)) (jl ig ii rs).length) w' u/\cy M w w'):=
 avR (dF:=Kr rs) (Fr:=AN (kz l (jz (jl ig ii rs)) (jl ig ii rs).length)) Y Y g f p i h o m k j t q λn0 a z hd hn hk=>avI s x b hl c hlen y hd hn hk
def avS{Post:uab}{M:dh}{d:Nat}(f:∀n,f7.ok n)(c:∀n,f8.ok n)(o:aJ (bQ M) #[be,bB] #[be,bB])(h:f7.R w be)(g:f8.R w bB)(m:0<W)(k:W<=16)(j:0<ak)(i:ak<=64)(a:0<mE/\mE<=1000)(hl:l.length<=1000)(b:rs.length<=1000)(hlen:∀r∈rs,r.2.length=l.length)(s:∀r∈rs,∀d∈r.2,d.text.size<=1000000)(q:∀w be bB,f7.R w be->f8.R w bB->Calls (ae prog true) 19 #[be,bB] w λe w'=>∃v,e=.returned v/\(AQ mE l).R w' v/\cJ w w')(p:∀M w be bB,aJ (bQ M) #[be,bB,.agg #[.I W,.I ak]] #[be,bB,.agg #[.I W,.I ak]]->f7.R w be->f8.R w bB->gi O prog Post 20 #[be,bB,.agg #[.I W,.I ak]] M w d (λu _ w'=>D3 rs w' u/\cy M w w')):
 gi O prog Post 9 #[be,bB,.I W,.I ak,.I 0,.I 9223372036854775807] M w d (λu _ w'=>ua (kz l (jz rs) rs.length) w' u/\cy M w w'):=by
 have e:jl 0 9223372036854775807 rs=rs:=by simp only[jl,vdx];exact vbv AP
 have:=pn (ig:=0) (ii:=9223372036854775807) AX AX f c o h g m k j i a hl b hlen s q p;rw[e]at this;exact this
end
end
section
variable{O:gJ}
def Ku(k:Nat):List sS:=[(1,0,0,[],[]),(1,0,0,[],[]),(4,0,1,[(k:Int)],[(k:Int)])]
def avU{k:Nat}{w:aS}(h:t_ (k:Int) w v):(dO 7 ou (Ku k)).R w v:=by
 obtain⟨a,no,c,kb,e,ob,d,kc,f,rfl,h⟩:=h;refine⟨_,c,Y,by simp[Ku],λi hi=>⟨a,no,Y,?_⟩⟩;obtain rfl|rfl|rfl:i=0\/i=1\/i=2:=by simp[Ku]at hi;omega
 .have h0:∀(j:Nat) v,(kx 1 0 0 none none 0 0 0)[j]?=some v->w.cell? (.a a (no+0*7+j))=some v:=λj v b=>by simpa using h.n0 j v b
  exact⟨_,_,_,_,⟨h0 0 _ Y,h0 1 _ Y,h0 2 _ Y,h0 3 _ Y,h0 4 _ Y,h0 5 _ Y,h0 6 _ Y⟩,⟨⟨_,_,_,Y⟩,⟨_,_,_,Y⟩⟩,aX.nil _ _ _,aX.nil _ _ _⟩
 .have h0:=h.n1;exact⟨_,_,_,_,⟨h0 0 _ Y,h0 1 _ Y,h0 2 _ Y,h0 3 _ Y,h0 4 _ Y,h0 5 _ Y,h0 6 _ Y⟩,⟨⟨_,_,_,Y⟩,⟨_,_,_,Y⟩⟩,aX.nil _ _ _,aX.nil _ _ _⟩
 .have h0:=h.ey;exact⟨_,_,_,_,⟨h0 0 _ Y,h0 1 _ Y,h0 2 _ Y,h0 3 _ Y,h0 4 _ Y,h0 5 _ Y,h0 6 _ Y⟩,⟨⟨_,_,_,Y⟩,⟨_,_,_,Y⟩⟩,Ow h.key,Ow h.hV⟩
structure Kv(t:List aG)(S k:Nat)(ty:ubl):Prop where
 h0:0<t.length
 hS:S<=300
 hJ:t[0].dk.length=S
 cX:∀i,i<S->∀c∈t,v_ i c
 right:mO t=true
 tP:r8 (ek t) (k:Int)=(ty,true)
 key:k<t.length
 G4:∀i,i<S->∀c∈t,(hR c i).text.size<=1000000
def sX(bG iB:List aG)(gj qO k:Nat):List aZ:=eN [k] (ma [k] (hY iB 0 qO)) (hY bG 0 gj) 0 (hY bG 0 gj).length
def vJ{t:List aG}{S:Nat}{r:aZ}(h:r∈hY t 0 S):∃i,i<S/\r=([((i:Nat):Int)],t.map (hR · i)):=by simp only[hY,vbh,List.mem_range]at h;obtain⟨i,hi,rfl⟩:=h;exact⟨i,AP,Ad⟩
def OK{aD:uaa}{rs:List aZ}{q:c2}{r:aZ}(h:r∈ma aD rs q):r∈rs:=(List.mem_filter.1 h).1
section
variable{bG iB:List aG}{gj qO k:Nat}{ty:ubl}(A:Kv bG gj k ty)(B:Kv iB qO k ty)(hl:bG.length+iB.length<=8)
include A B hl
theorem avV:JD [k] (ma [k] (hY iB 0 qO)) (hY bG 0 gj):=by
 have h:=A.hS;have g:=B.hS;refine⟨by rw[uO];omega,λr a x b=>?_,Ad,λq=>?_,λr a q r' e=>?_,λr a d hd=>?_,λq r a d hd=>?_⟩
 .obtain⟨i,hi,rfl⟩:=vJ a;simp at b;subst b;simpa using A.key
 .have:=Te [k] (hY iB 0 qO) q;rw[uO]at this;omega
 .obtain⟨i,hi,rfl⟩:=vJ a;obtain⟨j,f,rfl⟩:=vJ (OK e);simp;omega
 .obtain⟨i,hi,rfl⟩:=vJ a;obtain⟨c,hc,rfl⟩:=vbh.1 hd;have:=A.G4 i hi c hc;omega
 .obtain⟨i,hi,rfl⟩:=vJ (OK a);obtain⟨c,hc,rfl⟩:=vbh.1 hd;have:=B.G4 i hi c hc;omega
theorem Kw{r:aZ}(h:r∈sX bG iB gj qO k):r.1.length=2/\r.2.length=bG.length+iB.length/\∀d∈r.2,d.text.size<=1000000:=by
 obtain⟨a,g,q,b,f,rfl⟩:=Tq h;obtain⟨i,hi,rfl⟩:=vJ g;obtain⟨j,e,rfl⟩:=vJ (OK f);refine⟨Y,Ad,λd hd=>?_⟩;rcases List.mem_append.1 hd with hd|hd
 .obtain⟨c,hc,rfl⟩:=vbh.1 hd;exact A.G4 i hi c hc
 .obtain⟨c,hc,rfl⟩:=vbh.1 hd;exact B.G4 j e c hc
end
section
variable{bG:List aG}{gj k:Nat}{ty:ubl}(A:Kv bG gj k ty)(hl:bG.length+bG.length<=8)
include A hl
theorem pe(w:aS)(be bB:Value)(b:vI [bG] w be)(i:t_ (k:Int) w bB):Calls (ae prog true) 19 #[be,bB] w λe w'=>∃v,e=.returned v/\(AQ 3 (ek bG++ek bG)).R w' v/\cJ w w':=by obtain⟨q,no,t,kb,p,ob,j,kc,r,rfl,h⟩:=i;obtain⟨bK,f,rfl,u,s⟩:=id b;obtain⟨a,d,rfl,-⟩:=s 0 Ad;exact(auQ bG k ty a d f q no t kb p ob j kc r w b A.right h A.tP A.tP (by simpa[ek]using hl)).mono λe w'⟨g,c,v,o,n,m,l⟩=>⟨_,o,⟨_,Y,g,c,v,Y,n,m⟩,l⟩
theorem pd{Post:uab}{W ak:Nat}(h:0<W)(g:W<=16)(f:0<ak)(e:ak<=64)(M:dh)(w:aS)(be bB:Value)(o:aJ (bQ M) #[be,bB,.agg #[.I W,.I ak]] #[be,bB,.agg #[.I W,.I ak]])(n:vI [bG] w be)(m:t_ (k:Int) w bB):
 gi O prog Post 20 #[be,bB,.agg #[.I W,.I ak]] M w 3 (λu _ w'=>xA 2 (sX bG bG gj gj k) w' u/\cy M w w'):=by
 have p:=A.hS;have l:∀{t:List aG}{S:Nat},0<t.length->Full (hY t 0 S):=λh0 r b=>by obtain⟨i,hi,rfl⟩:=vJ b;exact⟨Ad,by simpa using h0⟩
 refine auw (ns:=Ku k) (ts:=[bG]) (eu:=[hY bG 0 gj,hY bG 0 gj]) (full:=sX bG bG gj gj k) o n (avU m) Y (by simp[Ku]) (λx a=>?_) (λr b=>?_) (λj ib x c a args M' w' d hk=>?_) (λib c args M' w' d hk=>?_)
 .simp at a;subst a;exact⟨by rw[uO];omega,l A.h0⟩
 .have:=Kw A A hl b;have:=A.h0;omega
 .match j with|0=>cases c;cases a;exact uZ (j:=0) (ts:=[bG]) (t:=bG) d (hk.aU ⟨Y,Y,Y,PJ⟩) Y A.h0 AP f e h g A.hS A.hJ A.cX|1=>cases c;cases a;exact uZ (j:=0) (ts:=[bG]) (t:=bG) d (hk.aU ⟨Y,Y,Y,PJ⟩) Y A.h0 AP f e h g A.hS A.hJ A.cX|j+2=>simp at a
 .cases c;refine auo (i:=0) (j:=1) (aD:=[k]) (on:=[k]) (D:=[hY bG 0 gj,hY bG 0 gj]) (rs:=hY bG 0 gj) (pY:=hY bG 0 gj) d (hk.aU ⟨Y,Y,Y,PJ⟩) Y Y (λr b x a=>?_) Ad (avV A A hl) f e h g (by rw[uO];omega) (by rw[uO];omega);obtain⟨i,hi,rfl⟩:=vJ b;simp at a;subst a;simpa using A.key
end
end
end a3
namespace eC
open RowKit ax bS cq a3
abbrev fA:=Int×Int×Int×Int
def ew(rs:List fA):List aG:=
 [⟨1,0,rs.map λr=>kB r.1,[],rs.map λr=>h6 r.1⟩,⟨1,0,rs.map λr=>gt r.2.1,[],rs.map λr=>h6 r.2.1⟩,⟨2,2,rs.map λr=>gt r.2.2.1,[],rs.map λr=>h6 r.2.2.1⟩,⟨3,0,[],rs.map λr=>o9 r.2.2.2,rs.map λr=>h6 r.2.2.2⟩]
def v0(r:fA):cR:=if h6 r.1 then sg else⟨false,kB r.1,0,ko⟩
def v1(r:fA):cR:=if h6 r.2.1 then sg else⟨false,gt r.2.1,0,ko⟩
def v2(r:fA):cR:=if h6 r.2.2.1 then sg else⟨false,gt r.2.2.1,2,ko⟩
def v3(r:fA):cR:=if h6 r.2.2.2 then sg else⟨false,0,0,o9 r.2.2.2⟩
theorem OL(c:Int):(o9 c).size<=2:=by
 unfold o9;split
 .decide
 .have:=rL c (n:=13) AP;obtain⟨k,hk,a⟩:∃k:Nat,k<13/\(lR c 13).toNat=k:=AA;rw[a];have b:k=0\/k=1\/k=2\/k=3\/k=4\/k=5\/k=6\/k=7\/k=8\/k=9\/k=10\/k=11\/k=12:=AP;rcases b with rfl|rfl|rfl|rfl|rfl|rfl|rfl|rfl|rfl|rfl|rfl|rfl|rfl<;>decide
def avZ(rs:List fA)(h:rs.length<=40):mO (ew rs)=true:=by
 have ht:r9 (rs.map λr=>o9 r.2.2.2)=true:=by grind[r9,OL]
 have h0:r9 []=true:=rfl;simp[mO,E2,ew,ul,H7,H6,LL,h0,ht,h]
def av0(rs:List fA){i:Nat}(h:i<rs.length):∀c∈ew rs,v_ i c:=by
 intro c hc;simp[ew]at hc;rcases hc with rfl|rfl|rfl|rfl
 .exact⟨AA,AA,AA,AA⟩
 .exact⟨AA,AA,AA,AA⟩
 .exact⟨AA,AA,AA,AA⟩
 .refine⟨AA,AA,AA,λs hs=>?_⟩;grind[OL]
end eC
namespace a3
open Conc ConcM RowKit ax bp cI dm bS cq eC
variable{w:aS}{Post:uab}{bB be:Value}
section
variable{O:gJ}
section
variable{N:Nat}{K:bL}{o:Oper}{x:uar}{t:List aG}
def Vu(a:o.op=.extract x 0)(b:bh K x (AN t)):bF (ae prog true) N K o (k8 t):=eb b λev w h=>by obtain⟨v,e,h⟩:=h;refine⟨.agg #[v],w,?_,⟨v,Y,h⟩,vaa _ _⟩;clear h;cases o;simp only at a;subst a;go_simp
def Vv(a:o.op=.extract x 1)(b:bh K x (AN t)):bF (ae prog true) N K o (a5 0):=eb b λev w h=>by obtain⟨v,e,h⟩:=h;refine⟨.I 0,w,?_,Y,vaa _ _⟩;clear h;cases o;simp only at a;subst a;go_simp
def Vw(a:o.op=.extract x 2)(b:bh K x (AN t)):bF (ae prog true) N K o G0:=eb b λev w h=>by obtain⟨v,e,h⟩:=h;refine⟨rQ,w,?_,Y,vaa _ _⟩;clear h;cases o;simp only at a;subst a;go_simp
end
def uu(F:Func):Code:=.seq (.region 0 (av F 0) false) (.seq (.region 1 (av F 1) false) .ret)
theorem um:f17.body=some (uu f17):=by kernel_rfl
def av9:∃o ats,(av f17 1)[4]?=some o/\o.op=.call {callee:=.value (.func 9),args:=#[.tmp 11,.tmp 12,.tmp 13,.tmp 14,.const (.I 0),.const (.I 9223372036854775807)],argTypes:=ats}/\o.guard=none/\o.dst=some 15:=⟨_,_,Y,Y,Y,Y⟩
def av_:∃b o2 a,((av f17 1)[8]?=some b/\b.op=.store 27 (.tmp 8) (.tmp 16)/\b.guard=none/\b.dst=none)/\((av f17 1)[8+1]?=some o2/\o2.op=.assign (.tmp 17)/\o2.guard=none/\o2.dst=some 9)/\(av f17 1)[8+2]?=some a/\a.op=.store 43 (.tmp 10) (.tmp 18)/\a.guard=none/\a.dst=none:=⟨_,_,_,⟨Y,Y,Y,Y⟩,⟨Y,Y,Y,Y⟩,Y,Y,Y,Y⟩
def awa{f7 f8 Fr:bb}(j:Fr.ok=λ_=>True){W ak d:Nat}{M:dh}(h:∀n,f7.ok n)(g:∀n,f8.ok n)(D:aJ (bQ M) #[be,bB] #[be,bB])(A:f7.R w be)(z:f8.R w bB)(K:∀M w be bB,aJ (bQ M) #[be,bB] #[be,bB]->f7.R w be->f8.R w bB->gi O prog Post 9 #[be,bB,.I W,.I ak,.I 0,.I 9223372036854775807] M w d (λu _ w'=>Fr.R w' u/\cy M w w'))(r:∀(n0:Nat) a c,a.defers=[]->n0<=c.heap.size->af 19 (up (a2 [(8,k7 n0 27 1),(10,k7 n0 43 2),(11,f7),(12,f8),(13,a5 W),(14,a5 ak)]) 15 Fr) a c->rA (ae prog true) f17 (.R (av f17 1) (List.range' 5 6)::[.code .ret]) (λv w1=>Fr.R w1 v/\Below n0 c w1) a c):
 gi O prog Post 17 #[be,bB,.I W,.I ak] M w d (λu _ w'=>Fr.R w' u/\cy M w w'):=by
 obtain⟨o,ats,C⟩:=av9;refine w6 (N:=19) (rest:=List.range' 5 6) (l0:=[(0,f7),(1,f8),(2,a5 W),(3,a5 ak),(18,nF)]) (l1:=[(8,k7 w.heap.size 27 1),(10,k7 w.heap.size 43 2),(11,f7),(12,f8),(13,a5 W),(14,a5 ak)]) (dF:=Fr) (Fr:=Fr) nJ func17 AJ um ?_ ?_ ⟨h _,g _,PJ,PJ,PJ,PJ⟩ ⟨Y,Y,h _,g _,PJ,PJ,PJ⟩ (by rw[j];trivial) (by rw[j];trivial) AJ (ks:=[.code .ret]) AJ C AX func9 Ah Vs (λa c hd hn hk=>?_) (λa H w1 Shun R hk k=>?_) (λa c hd hn hk=>r _ a c hd hn hk)
 .exact aJ.append (a:=#[be,bB]) (b:=#[.I W,.I ak]) D (zj _ _ _)
 .exact fu (v:=be) Kt A<|fu (v:=bB) Kt z<|fu (v:=.I W) Kt Y<|fu (v:=.I ak) Kt Y<|fu (v:=undef) (by simp[f17]) Y<|GM (by simp[f17])
 .obtain⟨u,J,B⟩:=hk.has 18 _ Y;have hk:=fu (F:=rM w.heap.size nF) J ⟨hn,B⟩ hk;unfold uu;refine bm ?_;rw[fk (av f17 0)];refine cD hk (aq Y (Vq (s:=18) Y Y)<|aq Y (df (F:=a5 0) Y Jd)<|aq Y (p8 (s:=18) Y Y)<|rfl) λa1 w1 y d1 b1=>bm (sI ?_);rw[fk (av f17 1)];exact(show bI _ (.R _ (List.range' 0 (4+7))::_) _ _ _ _ from rP y (aq Y JU<|aq Y JU<|aq Y JU<|aq Y JU<|rfl) AX λQ L t E I=>kf ⟨E.trans (d1.trans hd),t.aU ⟨Y,Y,Y,Y,Y,Y,PJ⟩,(b1.trans (I.mono b1.size)).mono hn⟩)
 .obtain⟨v1,e,r1⟩:=hk.has 11 _ Y;obtain⟨v2,f,m⟩:=hk.has 12 _ Y;obtain⟨v3,q,rfl⟩:=hk.has 13 _ Y;obtain⟨P,p,rfl⟩:=hk.has 14 _ Y;rw[show(#[Operand.tmp 11,.tmp 12,.tmp 13,.tmp 14,.const (.I 0),.const (.I 9223372036854775807)].map a.eval)=#[v1,v2,.I W,.I ak,.I 0,.I 9223372036854775807]from by simp[Act.eval,e,f,q,p]];exact K H w1 v1 v2 (og (l:=[v1,v2]) λx i=>by
   simp at i;rcases i with rfl|rfl
   .exact k.get _ _ _ e e
   .exact k.get _ _ _ f f) r1 m
def awb{f7 f8:bb}{W ak d:Nat}{b:List aG}{M:dh}(j:∀n,f7.ok n)(h:∀n,f8.ok n)(p:aJ (bQ M) #[be,bB] #[be,bB])(m:f7.R w be)(l:f8.R w bB)(A:∀M w be bB,aJ (bQ M) #[be,bB] #[be,bB]->f7.R w be->f8.R w bB->gi O prog Post 9 #[be,bB,.I W,.I ak,.I 0,.I 9223372036854775807] M w d (λu _ w'=>ua b w' u/\cy M w w')):
 gi O prog Post 17 #[be,bB,.I W,.I ak] M w d (λu _ w'=>ua b w' u/\cy M w w'):=by
 refine awa (Fr:=AN b) Y j h p m l A λn0 a C hd hn hk=>?_;refine Cv (ks':=[.R (av f17 1) (List.range' 8 3),.code .ret]) ?_;rw[fk (av f17 1)];refine(show bI _ (.R _ (List.range' 5 (3+3))::_) _ _ _ _ from rP hk (aq Y (Vu Y Y)<|aq Y (Vv Y Y)<|aq Y (Vw Y Y)<|rfl) AX λa1 w1 k d1 b1=>kf λf cs o=>?_);obtain⟨v,c,fr,⟨x,z⟩,g,e⟩:=pB (F:=f17) (ks:=[]) (i:=8) (xa:=8) (sa:=16) (xi:=9) (AR:=10) (sb:=18) (y:=.tmp 17) k (d1.trans hd) ⟨Y,Y,Y,Y⟩ Y av_ AX (λtmps w ba B bq s r q t ed=>by simp[results,results17,go_sem,rQ,s,r,q,t.rules.1,ed.rules.1]) f cs o;exact⟨v,c,fr,⟨x,(b1.mono hn).trans z⟩,g,e⟩
end
variable{m n:Int}
section
variable{O:gJ}
def xg(x y:Int):bb:=mg x y
def mF(x y:Int):bb:=eR xb (x,y)
section
variable{N n0:Nat}{K:bL}{o:Oper}{F:bb}{x y:uar}
def awd(a:o.op=.box 24 x)(b:bh K x (xg m n)):bF (ae prog true) N K o (mF m n):=eb b λev w h=>by have h:ev x=.agg #[.I m,.I n]:=h;have c:cJ w (w.alloc (.cells #[.I m,.I n] 24)):=(vaa _ w).alloc JT _;refine⟨.P w.heap.size 0,_,BB,⟨w.heap.size,0,Y,?_,?_⟩,c⟩<;>exact mj (vaz w _) Y Y
def uk(a:o.op=.fieldAddr 24 x 0)(c:bh K x (mF m n)):bF (ae prog true) N K o (eR lS m):=eb c λev w h=>by obtain⟨b,f,e,h0,d⟩:=h;exact⟨.P b f,w,BB,⟨b,f,Y,h0⟩,vaa _ _⟩
def ui(a:o.op=.fieldAddr 24 x 1)(c:bh K x (mF m n)):bF (ae prog true) N K o (eR lS n):=eb c λev w h=>by obtain⟨b,f,e,h0,d⟩:=h;exact⟨.P b (f+1),w,BB,⟨b,f+1,Y,d⟩,vaa _ _⟩
def Kz{c:Int}{ats:uaq}(f:o.op=.call {callee:=.value (.func 8),args:=#[x,y],argTypes:=ats})(d:bh K x (a5 c))(b:bh K y (a5 n))(hc:cT c)(hn:0<n/\n<=1000000):bF (ae prog true) N K o (a5 (lR c n)):=Ka f (λa w=>atl a w) d b λv i w h g=>by cases h;cases g;refine(J8 c n hc hn w).mono ?_;rintro e w' ⟨rfl,rfl⟩;exact⟨_,Y,Y,vaa _ _⟩
def uf{s v:Nat}{t:List aG}(e:o.op=.store 27 (.tmp s) (.tmp v))(hs:K s=some (k7 n0 27 1))(hv:K v=some (k8 t))(hg:o.guard=none:=by rfl)(hd:o.dst=none:=by rfl):Od (ae prog true) N n0 K o (27,s) (GZ n0 t):=⟨hg,hd,λa w hk=>by
 obtain⟨x,b,r1⟩:=hk.has s _ hs;obtain⟨y,i,d⟩:=hk.has v _ hv;obtain⟨w',h,g,f,c⟩:=xH (n0:=n0) (t:=t) (ev:=a.eval) (w:=w) e (by rw[d_ b];exact r1) (by rw[d_ i];exact d);rw[d_ b]at c;exact⟨w',h,g,f,x,b,c⟩⟩
def tR{s v:Nat}(e:o.op=.store 43 (.tmp s) (.tmp v))(hs:K s=some (k7 n0 43 2))(hv:K v=some G0)(hg:o.guard=none:=by rfl)(hd:o.dst=none:=by rfl):Od (ae prog true) N n0 K o (43,s) (AG n0):=⟨hg,hd,λa w hk=>by
 obtain⟨x,b,r1⟩:=hk.has s _ hs;obtain⟨y,i,d⟩:=hk.has v _ hv;obtain⟨w',h,g,f,c⟩:=Vf (n0:=n0) (ev:=a.eval) (w:=w) e (by rw[d_ b];exact r1) (by rw[d_ i];exact d);rw[d_ b]at c;exact⟨w',h,g,f,x,b,c⟩⟩
end
def tM(F:Func):Code:=.seq (.region 0 (av F 0) false) (.seq (.region 1 (av F 1) true) (sU F 1))
theorem Pg:Tryz.f6.body=some (tM Tryz.f6):=by kernel_rfl
def tL:iK prog true Tryz.f6=true:=by decide+kernel
def Ph:m5:=⟨10,λi=>i==13||i==14||decide (17<i),λi=>decide (10<i),[(17,27,8),(19,43,10)]⟩
def awe{n0:Nat}{b:List aG}{a:Act}(hd:a.defers=[])(hk:af 40 (a2 [(6,k7 n0 27 1),(8,GZ n0 b),(9,a5 0),(10,AG n0)]) a w):rA (ae prog true) Tryz.f6 [.code (sU Tryz.f6 1)] (λv w1=>Eb b w1 v/\Below n0 w w1) a w:=by
 obtain⟨W,t,d,u,rfl,r,k,o⟩:=hk.has 6 _ rfl;obtain⟨V,i,Z,bq,rfl,N,s,c⟩:=hk.has 8 _ rfl;obtain⟨U,A,O⟩:=hk.has 9 _ rfl;obtain⟨v10,z,M,rfl,L,x⟩:=hk.has 10 _ rfl;obtain⟨mL,c9,ed,ge,l4,X,In,Y,S,E8,Ip,Iq,Ir,Is,It,Iu,OU,OV,OW,OX,OY,T,OZ,Kj,O0,O1,O2,O3,O4,O5,O6,O7,O8,O9,O_,Pa,Pb,Pd,Pe,Pf,rfl⟩:=awc hk.size hd;obtain rfl:=van t;obtain rfl:=van i;obtain rfl:=van A;obtain rfl:=van z;cases O;clear t i A z hk hd;obtain⟨E,rfl⟩:∃q,u=#[q]:=by obtain⟨l⟩:=u;match l,o with| [q],_=>grind
 obtain⟨K,J,I⟩:=k.all;obtain⟨n,P,Q⟩:=s.all;obtain⟨D,C,R⟩:=x.all;obtain⟨⟨e,f,rfl,-,-⟩,-⟩:=id c;have F:Hid (ke w _ b):=c;have g:Hid (ai w d #[E] 27):=k;clear k s x c;simp[sU,Tryz.f6,bM.dW,bM.k0];refine aom ?_;go_wp2
 go_region
 go_wp2
 have u6:ai (w.setCell ⟨d,0,none⟩ (.slice e b.length f)) d #[.slice e b.length f] 27:=g.out.set 0 _;have y:hM pN w (w.setCell ⟨d,0,none⟩ (.slice e b.length f)):=hM.set g.out (by grind[pN]) _ _;have B:Below n0 w (w.setCell ⟨d,0,none⟩ (.slice e b.length f)):=(vaa n0 w).setCell (p:=⟨d,0,none⟩) r _;have m:=ke.kept y F.out;clear K J I n P Q D C R y;generalize w.setCell ⟨d,0,none⟩ (.slice e b.length f)=j at *;obtain⟨H,-⟩:=u6.rules;exact vbu (v:=.tuple #[.agg #[.slice e b.length f],.T]) (by simp[results,results6,go_sem,H]) rfl ⟨_,rfl,⟨_,rfl,ke.kept (show hM pN j j.drew from⟨vac _,λ_ _ _ _ h _=>h⟩) m⟩,B.trans (show Below n0 j j.drew from⟨rfl,rfl,rfl,vac _,λ_ _=>rfl⟩)⟩
def KB:∀p∈Ph.jy,zi p.2.1:=by decide
def awj{f7 f8:bb}{d:Nat}{x y:Int}{j:List aG}{M:dh}(i:∀n,f7.ok n)(g:∀n,f8.ok n)(k:cT x)(hy:cT y)(fB:aJ (bQ M) #[be,bB] #[be,bB])(iV:f7.R w be)(jk:f8.R w bB)(Ky:∀W ak:Nat,0<W->W<=16->0<ak->ak<=64->∀M w be bB,aJ (bQ M) #[be,bB] #[be,bB]->f7.R w be->f8.R w bB->gi O prog Post 9 #[be,bB,.I W,.I ak,.I 0,.I 9223372036854775807] M w d (λu _ w'=>ua j w' u/\cy M w w')):
 gi O prog Post 6 #[.agg #[.I x,.I y],be,bB] M w d (λu _ w'=>Eb j w' u/\cy M w w'):=by
 intro n Shun hn D e7 aF aC aK aM aH csZ hc dg;obtain⟨p,c⟩:∃p:Nat,lR x 16=p:=⟨(lR x 16).toNat,by have:=rL x (n:=16) AP;omega⟩;obtain⟨q,hq⟩:∃q:Nat,lR y 64=q:=⟨(lR y 64).toNat,by have:=rL y (n:=64) AP;omega⟩;have Ao:=rL x (n:=16) AP;have To:=rL y (n:=64) AP;have C:kA prog 6:=Aj func6 tL Pg;rw[vds func6 Pg];have m:aJ (bQ M) #[.agg #[.I x,.I y],be,bB] #[.agg #[.I x,.I y],be,bB]:=aJ.append (a:=#[.agg #[.I x,.I y]]) (b:=#[be,bB]) (.one (.pk (zj _ _ _))) fB;have H:=Held.start (n0:=w.heap.size) D JT (a:=⟨#[.agg #[.I x,.I y],be,bB]++Array.replicate 37 undef,[]⟩) (m.append (GJ _ _)) rfl;refine Ng nJ C H (k':=[.code (.region 1 (av Tryz.f6 1) true),.code (sU Tryz.f6 1)]) AJ AJ (I:=af 40 (a2 [(0,xg x y),(1,f7),(2,f8),(39,nF)])) (J:=af 40 (a2 [(1,f7),(2,f8),(3,mF x y),(6,k7 w.heap.size 27 1)])) (jx _ (iz ⟨PJ,i _,g _,PJ,PJ⟩)) (jx _ (iz ⟨i _,g _,PJ,rfl,PJ⟩)) (fu (v:=.agg #[.I x,.I y]) Kt rfl<|fu (v:=be) Kt iV<|fu (v:=bB) Kt jk<|fu (v:=undef) Ad rfl<|GM Ad) (λW1 o hk=>?_) λa1 cZ w1 H1 A=>?_
 .obtain⟨u,z,hu⟩:=hk.has 39 _ rfl;have hk:=fu (F:=rM w.heap.size nF) z ⟨o,hu⟩ hk;unfold tM;refine bm ?_;rw[fk (av Tryz.f6 0)];exact cD hk (aq rfl (awd rfl rfl)<|aq rfl (Vq (s:=39) rfl rfl)<|aq rfl (df (F:=dV false) rfl Jd)<|rfl) λbc T Z d2 b2=>bm (kf ⟨d2,Z.aU ⟨rfl,rfl,rfl,rfl,PJ⟩,b2.mono o⟩)
 have K:(1:Int)+(p:Int)=((1+p:Nat):Int):=AP;have NC:(1:Int)+(q:Int)=((1+q:Nat):Int):=AP;refine Nc (N:=40) (S:=Ph) (L:=a2 [(1,f7),(2,f8),(3,mF x y)]) (Q:=a2 [(6,k7 w.heap.size 27 1)]) nJ mixed C AJ (iz ⟨i _,g _,PJ,PJ⟩) (λs F e=>?_) AJ rfl rfl rfl rfl func17 Ah um rfl hn rfl (dF:=AN j) (by
  rw[fk (av Tryz.f6 1)];exact a3.hq rfl JU (hok:=i _)<|a3.hq rfl JU (hok:=g _)<|a3.hq rfl (uk rfl rfl)<|a3.hq rfl Jp<|a3.hq (F:=a5 p) rfl (by rw[<-c];exact Kz rfl rfl Jd k AX)<|a3.hq (F:=a5 (1+p:Nat)) rfl (by rw[<-K];exact nL rfl Jd rfl Bu AX)<|a3.hq rfl (ui rfl rfl)<|a3.hq rfl Jp<|a3.hq (F:=a5 q) rfl (by rw[<-hq];exact Kz rfl rfl Jd hy AX)<|a3.hq (F:=a5 (1+q:Nat)) rfl (by rw[<-NC];exact nL rfl Jd rfl Bu AX)<|hg rfl (λa M w Shun D hk m=>by
   obtain⟨v1,r,r1⟩:=hk.has 12 _ rfl;obtain⟨v2,t,U⟩:=hk.has 13 _ rfl;obtain⟨v3,X,rfl⟩:=hk.has 17 (a5 (1+p:Nat)) rfl;obtain⟨v4,V,rfl⟩:=hk.has 21 (a5 (1+q:Nat)) rfl;rw[show(#[Operand.tmp 12,.tmp 13,.tmp 17,.tmp 21].map a.eval)=#[v1,v2,.I (1+p:Nat),.I (1+q:Nat)]from by simp[Act.eval,r,t,X,V]];exact awb i g (og (l:=[v1,v2]) λx k=>by
    simp at k;rcases k with rfl|rfl
    .exact m.get _ _ _ r r
    .exact m.get _ _ _ t t) r1 U (Ky _ _ AP AP AP AP))<|a3.hk rfl JU (λ_=>xO) KB<|a3.hk rfl (Vu rfl rfl) (λ_=>xZ) KB<|a3.hk rfl (Vv rfl rfl) LD KB<|a3.hk rfl (Vw rfl rfl) LD KB<|a3.hn (F:=k7 w.heap.size 27 1) rfl (λa w' hn _=>Vo rfl a w' hn) (hs:=λ_ _ _ _=>G1)<|a3.hn (F:=k7 w.heap.size 43 2) rfl (λa w' hn _=>Vp rfl a w' hn) (hs:=λ_ _ _ _=>G1)<|hst rfl (uf rfl rfl rfl) (hs:=λ_ p c f=>Ve (by simp[Ph]at c;rcases c with rfl|rfl;exact absurd rfl f;rfl))<|a3.hk rfl Jq LD KB<|hst rfl (tR rfl rfl rfl) (hs:=λ_ p c f=>x3 (by simp[Ph]at c;rcases c with rfl|rfl;rfl;exact absurd rfl f))<|rfl) KK H1 (A.aU ⟨rfl,rfl,rfl,PJ⟩) (A.aU ⟨rfl,PJ⟩) λbc M2 T ey E eH P B=>?_
 .unfold a2 at e;split at e
  .cases e;exact⟨rfl,λp _=>G1⟩
  .cases e
 refine Ju nJ func6 tL Pg B AJ hc (I:=af 40 (a2 [(6,k7 w.heap.size 27 1),(8,GZ w.heap.size j),(9,a5 0),(10,AG w.heap.size)])) (gZ:=Eb j) (jx _ (iz ⟨rfl,rfl,PJ,rfl,PJ⟩)) (x5 _) (eH.aU ⟨rfl,rfl,rfl,rfl,PJ⟩) (λW1 o hI=>Cv (wO (kf (awe B.defers hI)))) λu Y R h1 h2 h3 h4 aL bx=>dg u Y R ey E P h1 h2 h3 h4 ⟨bx,aL.sub λb hb hw=>⟨hb,hw⟩⟩
end
section
variable{n0:Nat}
def VA{ρ:Ren}{w':aS}(hc:yb n0 ρ w w'){b c:Nat}(r:ρ.rel b c){l:uad}{T:g4}(h:ai w b l.toArray T):∃a,ai w' c a.toArray T/\cE (ar ρ) l a:=by obtain⟨g,d,m⟩:=hc.types _ _ _ _ _ r h;obtain⟨a⟩:=g;refine⟨a,d,S2 AA λi v j hv e=>?_⟩;obtain⟨x,f,k⟩:=hc.cells.cell ⟨b,i,none⟩ ⟨c,i,none⟩ v ⟨r,Y,Y⟩ ((h.rules.1 i).trans AA);rw[(ai.rules (show ai w' c a.toArray T from d)).1 i]at f;grind
theorem follows:prog.follows .rangeFuncRecover=true:=by decide+kernel
end
def eD(t:List aG):bb:=⟨GY 0 t,(GZ 0 t).fZ,λ_=>True,λn _ ρ w w' v v' hc hv h=>by
 have:=Vd (n0:=0) t ρ w w' v v' ⟨hc.cells,hc.types,λ_ _ _ _=>vav _,hc.inj⟩ hv h
 grind⟩
section
variable{N:Nat}{K:bL}{o:Oper}{F:bb}{x y z:uar}{ao:Type}{T T':g4}
def PK{t:List aG}{v:Value}(h:(eD t).R w v):∃b,v=.P b 0/\∃bq,w.cell? (.a b 0)=some bq/\ke w bq t:=by obtain⟨b,bq,rfl,-,c,a⟩:=h;exact⟨b,Y,bq,(c.rules.1 0).trans Y,a⟩
def sY{t:List aG}(a:o.op=.fieldAddr 27 x 0)(c:bh K x (eD t)):bF (ae prog true) N K o (eR (GB 5 nK) t):=eb c λev w h=>by obtain⟨b,e,bq,f,d⟩:=PK h;exact⟨.P b 0,w,BB,⟨b,0,Y,bq,f,d.iM⟩,vaa _ _⟩
def sZ{t:List aG}(a:o.op=.load 27 x)(c:bh K x (eD t)):bF (ae prog true) N K o (k8 t):=eb c λev w h=>by obtain⟨b,e,bq,f,d⟩:=PK h;exact⟨.agg #[bq],w,BB,⟨bq,Y,d⟩,vaa _ _⟩
def Zk(a:o.op=.load 24 x)(c:bh K x (mF m n)):bF (ae prog true) N K o (xg m n):=eb c λev w h=>by obtain⟨b,f,e,h0,d⟩:=h;simp only[vbz]at h0 d;exact⟨.agg #[.I m,.I n],w,BB,Y,vaa _ _⟩
def Zj{t:List aG}(a:o.op=.extract x 0)(b:bh K x (OE t)):bF (ae prog true) N K o (k8 t):=eb b λev w h=>by obtain⟨bq,e,c⟩:=h;exact⟨.agg #[bq],w,BB,⟨bq,Y,c⟩,vaa _ _⟩
def Zf{t:List aG}(a:o.op=.extract x 1)(b:bh K x (OE t)):bF (ae prog true) N K o (dV true):=eb b λev w h=>by obtain⟨bq,e,c⟩:=h;exact⟨.T,w,BB,Y,vaa _ _⟩
end
end a3
namespace a3
open Conc ConcM RowKit ax bp cI dm lM
section
variable{O:gJ}
section
variable{P:b4}{Post:uab}{n:Nat}{Shun:uam}{M:dh}{w:aS}{f:uaj}{a b:Act}{k k':il}{cs:fV}{n0:Nat}{a6:dh}{w0:aS}{N:Nat}{K:bL}
def ayA(u:(cY P).Good)(hF:P.follows .rangeFuncRecover=true)(F:kA P f){D:fi}(hd:D.d=cs.length)(E:Ai P D f)(V:gY D a b)(Z:k.all (hN D)=true)(H:Held O P a6 w0 n0 a M w Shun)(hk:k.all (gr P)=true)(X:k'.all (gr P)=true){U:dh}{I J:uag}(N:pQ n0 I)(Q:pQ n0 J)(h0:I a w)(hrun:∀W,n0<=W.heap.size->I a W->bI (ae P true) k k' (λa1 w1=>a1.defers=[]/\(∀s,U s->a1.tmps[s]?=a.tmps[s]?)/\J a1 w1/\Below n0 W w1) a W)(Y:∀a' j M' w',Held O P a6 w0 n0 a' M' w' Shun->gY D a' j->(∀s,U s->a'.tmps[s]?=a.tmps[s]?)->J a' w'->bP P Post n Shun 0 (a0 ((base f).at j k') cs) w'):
 bP P Post n Shun 0 (a0 ((base f).at b k) cs) w:=by
 refine SW u hF (D:=D) H.fH (f:=f) (cs0:=[]) (bs:=cs) (g:=a0 ((base f).at b k) cs) AP (.gK (V.SX f k) (E.bj Z a) cs hd.symm _ _) (Jm u F H.all H.defers hk) .nil ⟨rfl,rfl⟩ (R:=λx cse h t=>cse=[]/\∃a1,x=(base f).at a1 k'/\a1.defers=[]/\(∀s,U s->a1.tmps[s]?=a.tmps[s]?)/\J a1 t/\∃T,Below n0 {h with tape:=T} t) (λh l T=>?_) ?_
 .obtain⟨a1,w1,⟨r,m,q,c⟩,p⟩:=hrun {h with tape:=T} (by show n0<=h.heap.size;rw[l.size];exact H.size) (N _ _ _ _ _ (H.fH.kX l T) H.all h0) (base f) [eM f];exact⟨_,[],w1,p,rfl,a1,rfl,r,m,q,T,c⟩
 .rintro ρ x cse h t aQ a9 w' g' l ⟨rfl,a1,rfl,z,m,r,T,q⟩ A o d y;cases o;obtain⟨a',rfl,c,p⟩:=Jn z X A;obtain⟨j,rfl,K⟩:=mA.act hd y;refine Y a' j (pO ρ) w' (H.next l d q (d.all c) p) K (λs hs=>?_) (Q _ _ _ _ _ (d.kX H.size) c r);have e:=m s hs;cases i:a.tmps[s]? with|none=>rw[i]at e;have:=c.size;grind|some v=>rw[i]at e;obtain⟨v',C,B⟩:=c.some e;obtain⟨S,L⟩:=d.rel;rw[C,Jl L.one B ((H.all.get _ _ _ i i).mono d.le)]
structure Hf(O:gJ)(P:b4)(N:Nat)(K:bL)(a6:dh)(w0:aS)(m_:Act):Prop where
 fH:∃Shun,Home O P a6 Shun w0
 all:aJ (bQ a6) m_.tmps m_.tmps
 aD:af N K m_ w0
 ok:∀s F,K s=some F->F.ok w0.heap.size
def AZ(K:bL)(m_ a:Act):Prop:=∀s F,K s=some F->a.tmps[s]?=m_.tmps[s]?
def Hf.now{m_:Act}(p:Hf O P N K a6 w0 m_)(H:Held O P a6 w0 w0.heap.size a M w Shun)(hs:AZ K m_ a)(a7:a.tmps.size=N):af N K a w:=by
 obtain⟨S,g⟩:=p.fH;have i:∀b,a6 b->b<w0.heap.size:=λb d=>by obtain⟨o,c,-⟩:=g.cl b d;grind
 have f:cy a6 w0 w:=H.keep.sub λb d h=>⟨d,h⟩;refine⟨a7,λs F e=>?_⟩;obtain⟨v,c,j⟩:=p.aD.has s F e;exact⟨v,(hs s F e).trans c,F.ic _ (p.ok s F e) _ _ _ _ _ (f.kX g) (p.all.get _ _ _ c c) j⟩
def Held.ayC(H:Held O P a6 w0 n0 a M w Shun):Held O P M w w.heap.size a M w Shun:=.start H.fH (vac _) H.all H.defers
def Held.phase(H:Held O P a6 w0 n0 a M w Shun)(hk:af N K a w)(hok:∀s F,K s=some F->F.ok w.heap.size):Hf O P N K M w a:=⟨⟨_,H.fH⟩,H.all,hk,hok⟩
def Held.back{a':Act}{M':dh}{w':aS}{e:uam}(H:Held O P a6 w0 n0 a M w Shun)(c:Held O P M w w.heap.size a' M' w' e):Held O P a6 w0 n0 a' M' w' e:=
 ⟨c.fH,λb d=>c.sub b (H.sub b d),H.since.trans c.since,H.keep.trans (M':=λb=>M b/\b<w.heap.size) (λb d=>⟨H.sub b d.1,vap d.2 H.size⟩) c.keep,c.all,c.defers,vad H.size c.since.size⟩
variable{ops:eY}{i:Nat}{rest:uaa}{o:Oper}{m_:Act}
def ayD(hC:(cY P).Good)(u_:P.follows .mixedOrders=true)(hf:kA P f){D:Nat->fi}(q:KD P f ops k D)(hk:(Item.inRegion ops []::k).all (gr P)=true)(p:Hf O P N K a6 w0 m_)(afx:∀(i:Nat)(o:Oper)(d:Nat),ops[i]?=some o->o.dst=some d->K d=none)(g:Nat){j:Oper}{d:Nat}{gf:uaj}{S:Func}{hL:Code}{args:uaw}{ats:uaq}(Z:ops[g]?=some j)(Q:j.op=.call {callee:=.value (.func gf),args,argTypes:=ats})(yd:P.funcs[gf]?=some S)(lK:(S.name== "runtime.NumGoroutine")=false)(hb:S.body=some hL)(dY:j.guard=none)(mT:∀n,lM.ik (D n) j=true)(hn:n+16*d<=900000){I:Array Bool->Act->aS->Prop}(A:∀au,pQ w0.heap.size (I au)){t:Tmp}(ix:j.dst=some t)(Nh:t<N){mX:uaz}(hsz:∀au a w,I au a w->au.size=ops.size/\a.tmps.size=N)(B:gY (D cs.length) a b)(H:Held O P a6 w0 w0.heap.size a M w Shun)(hst:AZ K m_ a)(h0:I (Array.replicate ops.size false) a w)(hstep:∀au a W i o,af N K a W->I au a W->a.defers=[]->w0.heap.size<=W.heap.size->i≠g->au.getD i true=false->ops[i]?=some o->(∀e∈o.after,Region.binds .any e=true->au.getD e.on false=true)->wpOps (ae P true) ops (jZ λa1 w1=>((∃d v,o.dst=some d/\a1=a.put (some d) v)\/a1=a)/\I (au.setIfInBounds i true) a1 w1/\Below w0.heap.size W w1) [i] a W)(lf:∀au a M w Shun,Held O P a6 w0 w0.heap.size a M w Shun->af N K a w->I au a w->au.getD g false=false->(∀e∈j.after,Region.binds .any e=true->au.getD e.on false=true)->gi O P Post gf (args.map a.eval) M w d (λu _ w'=>mX w' u/\cy M w w'))(kY:∀au a w u,I au a w->au.getD g false=false->(∀e∈j.after,Region.binds .any e=true->au.getD e.on false=true)->mX w u->I (au.setIfInBounds g true) (a.put (some t) u) w)(jT:∀au a b M' w' c C,af N K a w'->I au a w'->Region.ready .any ops au=[]->c<=n+16*d->Held O P a6 w0 w0.heap.size a M' w' C->gY (D cs.length) a b->AZ K m_ a->bP P Post c C 0 (a0 ((base f).at b (.R ops []::k)) cs) w'){id:Nat}:bP P Post n Shun 0 (a0 ((base f).at b (.code (.region id ops true)::k)) cs) w:=by
 have ca:∀au a M w Shun k,Held O P a6 w0 w0.heap.size a M w Shun->I au a w->I au a (w.at k):=λau a M w Shun k H h=>A au _ _ _ _ _ ((cy.FY M w k).kX H.fH) H.all h;have dy:∀l:List Nat,(Item.inRegion ops l::k).all (hN (D cs.length))=true:=λl=>by rw[vbj,vaf];refine⟨?_,q.items _⟩;simp[hN];intro i _;cases y:ops[i]? with|none=>rfl|some o=>exact vam.1 (q.ops _) o (vbf y)
 refine Z3 u_ (I:=λau b M w c Shun=>∃a,gY (D cs.length) a b/\Held O P a6 w0 w0.heap.size a M w Shun/\AZ K m_ a/\I au a w/\c<=n+16*d/\(au.getD g false=false->c<=n)) (λau b M w c Shun k⟨a,hv,h,hs,hi,h'⟩=>⟨a,hv,h.at k,hs,ca _ _ _ _ _ _ h hi,h'⟩) ?_ (λau b M w c Shun⟨a,hv,h,hs,hi,r,_⟩ hr=>jT au a b M w c Shun (p.now h hs (hsz _ _ _ hi).2) hi hr r h hv hs) ⟨a,B,H,hst,h0,vcx _ _,λ_=>vac _⟩;intro au b M w c Shun i o rest ⟨a,B,H,hst,hi,zz,wP⟩ ld y E K';have E7:i<au.size:=by grind
 by_cases Y:i=g
 .subst Y;rw[Z]at y;cases y;have h_:au.getD i false=false:=by grind
  have V:=(hsz _ _ _ hi).2;refine tG Q yd lK hb AA hf q B H hk Z dY ⟨ix,AA⟩ mT (I:=I au) (J:=λa' w'=>(∃u,a'=a.put (some t) u)/\I (au.setIfInBounds i true) a' w') (mX:=mX) (A au) hi (λk=>lf au a M (w.at k) Shun (H.at k) (p.now (H.at k) hst V) (ca _ _ _ _ _ _ H hi) h_ E) (λu w' r m=>⟨⟨u,rfl⟩,kY au a w' u r h_ E m⟩) ?_;rintro a' T M' w' ey C r m L ⟨⟨u,rfl⟩,z⟩;refine K' T M' w' ey C ⟨_,L,m,λs F e=>?_,z,AA,λh=>?_⟩
  .have R:t≠s:=λx=>by grind
   exact(fY R).trans (hst s F e)
  .simp_all
 .have V:=(hsz _ _ _ hi).2;refine ayA hC q.follows hf (q.d _) (q.fn _) B (dy _) H (k:=.R ops (i::rest)::k) (k':=.R ops rest::k) CC CC (U:=λs=>∃F,K s=some F) (I:=λa w=>af N K a w/\I au a w) (J:=I (au.setIfInBounds i true)) (λρ a1 bc w1 X hc ha h=>⟨jx _ p.ok ρ a1 bc w1 X hc ha h.1,A au ρ a1 bc w1 X hc ha h.2⟩) (A _) ⟨p.now H hst V,hi⟩ (λW hW Ni b cs=>?_) ?_
  .obtain⟨a1,w1,r,m⟩:=Js rest [i] a W (hstep au a W i o Ni.1 Ni.2 H.defers hW Y ld y E) b k cs;refine⟨a1,w1,?_,m⟩;obtain⟨z,h4,aL⟩:=r;rcases z with⟨d',v,gO,rfl⟩|rfl
   .refine⟨GH,λs hs=>?_,h4,aL⟩;grind[fY]
   .exact⟨H.defers,λ_ _=>rfl,h4,aL⟩
  .intro a' T M' w' m L hu z;refine K' T M' w' c Shun ⟨a',L,m,λs F e=>(hu s ⟨F,e⟩).trans (hst s F e),z,zz,λh=>wP ?_⟩;simp_all
end
end
section
open bS cq eC
variable{O:gJ}
section
variable{P:b4}{Post:uab}{n:Nat}{Shun:uam}{M a6:dh}{w w0:aS}{f:uaj}{a b m_:Act}{k:il}{cs:fV}{N:Nat}{K L K':bL}{ops:eY}{S:m5}
def ayE{id:Nat}(hC:(cY P).Good)(u_:P.follows .mixedOrders=true)(hf:kA P f){D:Nat->fi}(hD:KD P f ops k D)(hk:(Item.inRegion ops []::k).all (gr P)=true)(p:Hf O P N K a6 w0 m_)(aN:∀s F,L s=some F->F.ok w0.heap.size)(gV:Kb ops S=true)(UD:pR L ops.toList=true)(U:pR K ops.toList=true){g:Oper}{d:Nat}{gf:uaj}{R:Func}{hL:Code}{args:uaw}{ats:uaq}(l:ops[S.g]?=some g)(y:g.op=.call {callee:=.value (.func gf),args,argTypes:=ats})(Y:P.funcs[gf]?=some R)(lK:(R.name== "runtime.NumGoroutine")=false)(hb:R.body=some hL)(dY:g.guard=none)(mT:∀n,lM.ik (D n) g=true)(hn:n+16*d<=900000){iy:Tmp}(x:g.dst=some iy){dF:bb}(hq:sR (ae P true) N w0.heap.size ops S L K dF (λE=>∀a M w,af N E a w->aJ (bQ M) a.tmps a.tmps->gi O P Post gf (args.map a.eval) M w d (λu _ w'=>dF.R w' u/\cy M w w')) ops.toList 0 (λ_=>none) K K')(fz:gY (D cs.length) a b)(H:Held O P a6 w0 w0.heap.size a M w Shun)(LC:AZ K m_ a)(h0:af N L a w)(jT:∀a b M' w' m v,af N K a w'->af N K' a w'->m<=n+16*d->Held O P a6 w0 w0.heap.size a M' w' v->gY (D cs.length) a b->AZ K m_ a->bP P Post m v 0 (a0 ((base f).at b (.R ops []::k)) cs) w'):
 bP P Post n Shun 0 (a0 ((base f).at b (.code (.region id ops true)::k)) cs) w:=by
 obtain⟨T,B,A⟩:=yg.all hq;have c:=me.of (Q:=λ_=>none) gV UD Fw U;have cX:∀(j:Nat) o,ops[j]?=some o->_:=λj o V=>B j o AA;simp only[vbm]at cX;have UE:∀j,j<ops.size->(T j).ok w0.heap.size:=λj hj=>by obtain⟨d',-,-,q,-⟩:=cX j _ (vao hj);exact q
 obtain⟨atB,t,X,-,-,J⟩:=cX S.g g l;unfold AE at J;unfold qH at t;simp only[c.g.2]at J t;rw[x]at t;cases t;obtain⟨-,eO,gI⟩:_/\_/\T S.g=dF:=J.resolve_right λh=>absurd rfl h.1;refine ayD hC u_ hf hD hk p (λi o d B A=>(c.l i o d B A).2.2) S.g l y Y lK hb dY mT hn (I:=mf N ops S L (λ_=>none) T) (λau=>zF aN (λ_ _ e=>Cn) UE) x X (mX:=dF.R) (λau a w h=>⟨h.len,h.size⟩) fz H LC (mf.start h0 ⟨h0.size,λ_ _ e=>Cn⟩) ?_ ?_ ?_ ?_
 .intro au a W i o hKn h hd hW Z ld V r;exact h.step c (λ_ _ e=>Cn) cX hKn Z hW ld V r
 .intro au a M w Shun C hKn h z r;exact eO a M w (h.env c hKn l z r) C.all
 .intro au a w u h z r hu;exact h.put c l x c.g.2 X z (vaa _ _) (by rw[gI];exact hu)
 .intro au a b M' w' m v hKn h hr pq C VW BO;exact jT a b M' w' m v hKn (h.dK c hKn hr (λs F e=>.inl e) A) pq C VW BO
end
end
end a3
namespace a3
open Conc ConcM RowKit ax bp cI dm bS cq eC
def ayF(c:aG)(w:aS)(v:Value):Prop:=∃bj vs aY,v=.agg #[.I c.kind,.I c.bV,bj,vs,aY]/\tf w bj vs aY c
def jj(c:aG):bb:=⟨ayF c,λw w' v hb⟨bj,vs,aY,e,h⟩=>⟨bj,vs,aY,e,h.mono (bo.bX hb)⟩,λ_=>True,λn _ ρ w w' v v' hc hv⟨bj,vs,aY,e,h⟩=>by
 subst e
 obtain⟨l',rfl,k⟩:=sK hv
 cases k with
 |cons k1 k=>cases k with
  |cons k2 k=>cases k with
   |cons k3 k=>cases k with
    |cons k4 k=>cases k with
     |cons dG k=>
      cases k
      rw[hO k1,hO k2]
      exact⟨_,_,_,Y,ax.aX.carry wx hc.cells k3 h.fU,ax.aX.carry ME hc.cells k4 h.eF,ax.aX.carry MD hc.cells dG h.dk⟩⟩
section
variable{N:Nat}{K:bL}{o o2:Oper}{F:bb}{x y z:uar}{ao:Type}{T T':g4}
def ji{c:aG}(a:o.op=.load 53 x)(g:bh K x (eR nK c)):bF (ae prog true) N K o (jj c):=eb g λev w h=>by obtain⟨b,f,e,bj,vs,d,h0,n,m,l,k,j⟩:=h;simp only[vbz]at h0;have i:=ff h0;exact⟨.agg #[.I c.kind,.I c.bV,bj,vs,d],w,BB,⟨bj,vs,d,Y,j⟩,vaa _ _⟩
def VX{t:List aG}(b:o.op=.box 27 x)(f:bh K x (k8 t)):bF (ae prog true) N K o (eD t):=eb f λev w h=>by obtain⟨bq,e,a⟩:=h;obtain⟨⟨g,i,rfl,-,-⟩,-⟩:=id a;have c:cJ w (w.alloc (.cells #[.slice g t.length i] 27)):=(vaa _ w).alloc JT _;have d:Hid _:=a;clear a;exact⟨.P w.heap.size 0,_,by cases o;simp only at b;subst b;go_simp,⟨w.heap.size,_,Y,vav _,ai.new _ _ _,ke.kept (AM c) d.out⟩,c⟩
section
variable{ops:eY}{i d s:Nat}{Q:uai}{rest:uaa}{a:Act}{w:aS}
def oh{t:List aG}(m:ops[i]?=some o)(l:ops[i+1]?=some o2)(e:o.op=.alloc 27)(c:o2.op=.store 27 (.tmp d) (.tmp s))(j:K s=some (k8 t))(hk:af N K a w)(hd:o.dst=some d)(f:o2.dst=none)(g1:o.guard=none)(p:o2.guard=none)(a7:d<N)(y:d≠s)(k:∀a' w1,af N (up K d (eD t)) a' w1->a'.defers=a.defers->cJ w w1->wpOps (ae prog true) ops Q rest a' w1):wpOps (ae prog true) ops Q (i::(i+1)::rest) a w:=by
 obtain⟨v,q,bq,rfl,h⟩:=hk.has s _ j;obtain⟨⟨u,x,rfl,-,-⟩,-⟩:=id h;have b:cJ w (w.alloc (.cells #[.slice u t.length x] 27)):=(vaa _ w).alloc JT _;have g:Hid _:=h;clear h;refine Ux (F:=eD t) (GD:=w.alloc (.cells #[.N] 27)) m l g1 p hd f a7 y hk q (λev=>?_) (λev z A=>?_) b ⟨w.heap.size,_,Y,vav _,ai.new _ _ _,ke.kept (AM b) g.out⟩ λa' r n=>k a' _ r n b
 .cases o;simp only at e;subst e;go_simp
 .cases o2;simp only at c;subst c;go_simp
def nT{c:aG}(t:ops[i]?=some o)(r:ops[i+1]?=some o2)(l:o.op=.alloc 53)(e:o2.op=.store 53 (.tmp d) (.tmp s))(q:K s=some (jj c))(hk:af N K a w)(hd:o.dst=some d)(n:o2.dst=none)(g1:o.guard=none)(x:o2.guard=none)(a7:d<N)(A:d≠s)(k:∀a' w1,af N (up K d (eR nK c)) a' w1->a'.defers=a.defers->cJ w w1->wpOps (ae prog true) ops Q rest a' w1):wpOps (ae prog true) ops Q (i::(i+1)::rest) a w:=by
 obtain⟨v,y,bj,vs,D,rfl,h⟩:=hk.has s _ q;obtain⟨j,ci,f,g,an,m,rfl,rfl,rfl⟩:=h.shape;have b:cJ w (w.alloc (.cells #[.I c.kind,.I c.bV,.slice j c.fU.length ci,.slice f c.eF.length g,.slice an c.dk.length m] 53)):=(vaa _ w).alloc JT _;have c8:=ai.new w #[.I c.kind,.I c.bV,.slice j c.fU.length ci,.slice f c.eF.length g,.slice an c.dk.length m] 53;have p:Hid _:=h;clear h;refine Ux (F:=eR nK c) (GD:=w.alloc (.cells #[.I 0,.I 0,.N,.N,.N] 53)) t r g1 x hd n a7 A hk y (λev=>?_) (λev B C=>?_) b ⟨w.heap.size,0,Y,_,_,_,(c8.rules.1 _).trans Y,(c8.rules.1 _).trans Y,(c8.rules.1 _).trans Y,(c8.rules.1 _).trans Y,(c8.rules.1 _).trans Y,p.out.mono (bo.bX b)⟩ λa' z u=>k a' _ z u b
 .cases o;simp only at l;subst l;go_simp
 .cases o2;simp only at e;subst e;go_simp
end
end
def VY{P:b4}{f:uaj}{fn:Func}{c:Code}{args:dp}{w:aS}{R:uab}{ks:il}(a:P.funcs[f]?=some fn)(g:fn.body=some c)(h:bI P [.code c] (.code .ret::ks) (λa1 w1=>a1.defers=[]/\∃v,(results fn a1.tmps).run P w1=.ok v w1/\R v w1) ⟨args++Array.replicate (fn.ntmps-args.size) undef,[]⟩ w):Calls P f args w λe w'=>∃v,e=.returned v/\R v w':=λcs=>by obtain⟨a1,w1,⟨hd,v,d,j⟩,i⟩:=h (base f) cs;have b:=Steps.trans i (.one step_ret);rw[<-vds a g]at b;exact⟨.returned v,w1,_,⟨v,Y,j⟩,b,Y,Y,hd,Y,fn,a,d⟩
def xl(b:Nat)(cs:dp)(T:g4):bb:=⟨λw u=>u=.P b 0/\ai w b cs T,λ_ _ _ hb h=>⟨h.1,h.2.call hb⟩,λ_=>False,λ_ h=>h.elim⟩
def PL(b k:Nat)(v:Value):bb:=⟨λw u=>u=.P b k/\w.cell? (.a b k)=some v,λ_ _ _ hb h=>⟨h.1,bo.bX hb _ _ _ h.2⟩,λ_=>False,λ_ h=>h.elim⟩
def zl(l:uad):bb:=⟨λw u=>∃g c,u=.S g 0 1 c/\∀j x,l[j]?=some x->w.cell? (.a g j)=some x,λ_ _ _ hb⟨g,c,h1,h2⟩=>⟨g,c,h1,λj x h=>bo.bX hb _ _ _ (h2 j x h)⟩,λ_=>False,λ_ h=>h.elim⟩
variable{v:Value}
section
variable{N:Nat}{K:bL}{o:Oper}{F:bb}{x y z:uar}{ao:Type}{T T':g4}{P:b4}
def Er{t:List aG}(a:o.op=.fieldAddr 27 x 0)(c:bh K x (sQ v (eD t))):bF (ae prog true) N K o (eR (GB 5 nK) t):=eb c λev w h=>by obtain⟨b,e,bq,f,d⟩:=PK h.2;exact⟨.P b 0,w,BB,⟨b,0,Y,bq,f,d.iM⟩,vaa _ _⟩
def PM{b k:Nat}{cs:dp}(a:o.op=.fieldAddr 53 x k)(c:bh K x (xl b cs 53))(hk:k<5)(hv:cs[k]?=some v):bF (ae prog true) N K o (PL b k v):=eb c λev w h=>by obtain⟨e,h⟩:=h;refine⟨.P b k,w,?_,⟨Y,(h.rules.1 k).trans hv⟩,vaa _ _⟩;cases o;simp only at a;subst a;have:k=0\/k=1\/k=2\/k=3\/k=4:=AP;rcases this with rfl|rfl|rfl|rfl|rfl<;>go_simp
def ayH{b:Nat}(a:o.op=.fieldAddr 27 x 0)(c:bh K x (xl b #[v] 27)):bF (ae prog true) N K o (PL b 0 v):=eb c λev w h=>by obtain⟨e,h⟩:=h;refine⟨.P b 0,w,?_,⟨Y,(h.rules.1 0).trans Y⟩,vaa _ _⟩;cases o;simp only at a;subst a;go_simp
def KR{b k:Nat}(a:o.op=.load T x)(c:bh K x (PL b k v))(d:T=3\/T=2\/T=9\/T=4\/T=49\/T=50\/T=51\/T=25):bF (ae prog true) N K o (e8 v):=eb c λev w h=>by obtain⟨e,h⟩:=h;refine⟨v,w,?_,Y,vaa _ _⟩;cases o;simp only at a;subst a;rcases d with rfl|rfl|rfl|rfl|rfl|rfl|rfl|rfl<;>go_simp
def ayI{b k:Nat}{n:Int}(c:o.op=.load 3 x)(a:bh K x (PL b k (.I n))):bF (ae prog true) N K o (a5 n):=KR c a (.inl Y)
def ayJ{n:Int}(a:o.op=.buildSlice 49 1 #[(0,x)])(b:bh K x (a5 n)):bF (ae prog true) N K o (zl [.I n]):=eb b λev w h=>by
 have e:ev x=.I n:=h;refine⟨.S w.heap.size 0 1 1,w.alloc (.cells #[.I n] 2),?_,⟨w.heap.size,1,Y,λj v c=>?_⟩,(vaa _ w).alloc JT _⟩
 .cases o;simp only at a;subst a;go_simp
 simp_all
def ayK{n:ByteArray}(a:o.op=.buildSlice 50 1 #[(0,x)])(b:bh K x (Nk n)):bF (ae prog true) N K o (zl [.string n]):=eb b λev w h=>by
 have e:ev x=.string n:=h;refine⟨.S w.heap.size 0 1 1,w.alloc (.cells #[.string n] 9),?_,⟨w.heap.size,1,Y,λj v c=>?_⟩,(vaa _ w).alloc JT _⟩
 .cases o;simp only at a;subst a;go_simp
 simp_all
def ayL{n:Bool}(a:o.op=.buildSlice 51 1 #[(0,x)])(b:bh K x (dV n)):bF (ae prog true) N K o (zl [.bool n]):=eb b λev w h=>by
 have e:ev x=.bool n:=h;refine⟨.S w.heap.size 0 1 1,w.alloc (.cells #[.bool n] 4),?_,⟨w.heap.size,1,Y,λj v c=>?_⟩,(vaa _ w).alloc JT _⟩
 .cases o;simp only at a;subst a;go_simp
 simp_all
end
def nz{P:b4}{t e:g4}{z:Value}{size bytes:Nat}(E:py P t e z size bytes){ops:eY}{i d:Nat}{o:Oper}{a:Act}{w:aS}{x y:uar}(s:ops[i]?=some o)(H:o.guard=none)(hd:o.dst=some d)(f:o.op=.call {callee:=.builtin .append,args:=#[x,y],argTypes:=#[t,t]}){B n:Nat}{xs news:uad}(q:a.eval x=v)(I:w.ownsRow B e size v n xs){m g c:Nat}(p:a.eval y=.S g 0 m c)(hl:news.length=m*size)(K:∀j u,news[j]?=some u->w.cell? (.a g j)=some u)(F:∀u∈news,u.oneCell'=true)(M:n+m<=1000000)(h:bytes<=1000)(A:B<=w.heap.size){Q:uag}(k:∀b w',w'.ownsRow B e size b (n+m) (xs++news)->w.grownBy w' v.ownBlock->(b.ownBlock=v.ownBlock\/b.ownBlock=some w.heap.size)->Q (a.put (some d) b) w'):wpOps P ops (jZ Q) [i] a w:=by
 obtain⟨GK,hi,l,hsz,L⟩:=vch E.hi;obtain⟨b,w',r,D,C,O,J⟩:=run_append_own_at (P:=P) w B t o.type e GK z size bytes E.ht hi l hsz L E.LI E.hsz v n xs I ⟨g,0,none⟩ m c news hl (λj u N=>by
  grind[Addr.add]) F (by simp[maxLen];omega) (by
   have:(n+m)*bytes<=1000000*1000:=Nat.mul_le_mul M h;omega) A
 refine rD s H hd (v:=b) (w1:=w') ?_ (k b w' D C J);simp only[execOp,f,resolve,invoke,builtin,q,p,r,Result.andThen,vdp,Sem.run_pure,List.map_toArray,vdg,List.map_nil]
theorem ayM{w:aS}{a b:Nat}{f g:dp}{d c:g4}(j:ai w a f d)(i:ai w b g c)(h:d≠c):a≠b:=λe=>by simp_all[ai]
theorem PN{w:aS}{B:Nat}{e:g4}{size n:Nat}{xs:uad}(h:w.ownsRow B e size v n xs){g:Nat}(hg:v.ownBlock=some g):∃c,ai w g c e:=by
 obtain⟨-,⟨hv,-⟩|⟨g',cap,bd,hv,-,hc,-⟩⟩:=h
 .rw[hv]at hg;cases hg
 .rw[hv]at hg;cases hg;exact⟨bd,hc⟩
theorem VZ{w:aS}{B:Nat}{e T:g4}{size n:Nat}{xs:uad}(h:w.ownsRow B e size v n xs){b:Nat}{cs:dp}(c:ai w b cs T)(a:e≠T):v.ownBlock≠some b:=λhg=>by grind[PN,ayM]
def Hg{w w1:aS}{B d:Nat}{e a:g4}{size n size' b:Nat}{u:Value}{xs xs':uad}(h:w.ownsRow B e size v n xs)(f:w.ownsRow d a size' u b xs')(c:e≠a)(hg:w.grownBy w1 u.ownBlock):w1.ownsRow B e size v n xs:=by refine h.kept hg ?_;cases hv:v.ownBlock with|none=>grind|some g=>grind[PN,VZ]
theorem xm{w:aS}{B:Nat}{e T:g4}{size n:Nat}{xs:uad}(h:w.ownsRow B e size v n xs){b:Nat}{cs:dp}(i:ai w b cs T)(c:e≠T)(f:Nat)(x:Value):(w.setCell ⟨b,f,none⟩ x).ownsRow B e size v n xs:=by
 obtain⟨hl,⟨hv,hn⟩|⟨g,cap,bd,hv,hg,hc,a⟩⟩:=id h
 .exact⟨hl,.inl ⟨hv,hn⟩⟩
 .refine⟨hl,.inr ⟨g,cap,bd,hv,hg,?_,a⟩⟩;have d:g≠b:=λe=>by simp_all[ai]
  grind[Below.heap_setCell]
def A0{w w1:aS}{B:Nat}{e:g4}{size n:Nat}{xs:uad}(h:w.ownsRow B e size v n xs)(b:cJ w w1):w1.ownsRow B e size v n xs:=by
 obtain⟨hl,⟨hv,hn⟩|⟨g,cap,bd,hv,hg,hc,a⟩⟩:=id h
 .exact⟨hl,.inl ⟨hv,hn⟩⟩
 .exact⟨hl,.inr ⟨g,cap,bd,hv,hg,(b.block g (ai.lt (show ai w g bd e from hc))).trans hc,a⟩⟩
def KS{w w1:aS}{B n:Nat}{e:g4}{size:Nat}{xs:uad}(h:w.ownsRow B e size v n xs)(hg:w.grownBy w1 v.ownBlock)(c:B<=w.heap.size):Below B w w1:=
 ⟨hg.os,hg.tape,hg.output,hg.size,λb a=>hg.block b AP λe=>by have:=(h.lt b e.symm).1;omega⟩
def PO{P:b4}{t e zm:g4}{z:Value}{size bytes:Nat}(E:py P t e z size bytes){ops:eY}{N i d1 h q p sb b f:Nat}{o o2 m:Oper}{K:bL}{a:Act}{w:aS}{cs:dp}{rest:uaa}{Q:uai}(y:ops[i]?=some o)(x:ops[i+1]?=some o2)(T:ops[i+2]?=some m)(g1:o.guard=none)(U:o2.guard=none)(V:m.guard=none)(I:o.dst=some d1)(J:o2.dst=some h)(L:m.dst=none)(r:o.op=.call {callee:=.builtin .append,args:=#[.tmp q,.tmp p],argTypes:=#[t,t]})(By:∀(ev:uak) w,ev (.tmp sb)=.P b 0->(execOp ev o2).run P w=.ok (.value (.P b f)) w)(EI:∀(ev:uak) w bK n c,ai w b cs zm->ev (.tmp h)=.P b f->ev (.tmp d1)=.slice bK n c->(execOp ev m).run P w=.ok .skip (w.setCell ⟨b,f,none⟩ (.slice bK n c)))(hs:d1<N/\h<N/\d1≠h/\d1≠sb)(hk:af N K a w){news:uad}(X:K q=some (e8 v))(W:K p=some (zl news))(Bd:K sb=some (xl b cs zm)){B n:Nat}{xs:uad}(Y:w.ownsRow B e size v n xs)(hl:news.length=size)(O:∀u∈news,u.oneCell'=true)(hn:n+1<=1000000)(M:bytes<=1000)(S:B<=w.heap.size)(hT:e≠zm)(k:∀a' w1 d,w1.ownsRow B e size d (n+1) (xs++news)->w.grownBy w1 v.ownBlock->ai w1 b cs zm->(∀s,s≠d1->s≠h->a'.tmps[s]?=a.tmps[s]?)->a'.tmps.size=N->a'.defers=a.defers->wpOps P ops Q rest a' (w1.setCell ⟨b,f,none⟩ d)):wpOps P ops Q (i::(i+1)::(i+2)::rest) a w:=by
 obtain⟨v0,br,rfl⟩:=hk.has q _ X;obtain⟨u2,bn,g,c,rfl,Md⟩:=hk.has p _ W;obtain⟨u3,H,rfl,Z⟩:=hk.has sb _ Bd;refine kh (R:=λa1 w1=>∃d,a1=a.put (some d1) d/\w1.ownsRow B e size d (n+1) (xs++news)/\w.grownBy w1 v0.ownBlock) (nz E y g1 I r (d_ br) Y (d_ bn) AP Md O hn M S λd w' r1 l r3=>⟨d,rfl,r1,l⟩) ?_;rintro a1 w1 ⟨d,rfl,r1,l⟩;have F:ai w1 b cs zm:=ai.grown Z l λg' mP e=>by grind[VZ]
 obtain⟨bK,cc,rfl⟩:=h9 r1;refine kh (R:=λD j=>D=(a.put (some d1) (.slice bK (n+1) cc)).put (some h) (.P b f)/\j=w1) (rD x U J (By _ _ (d_ ((fY hs.2.2.2).trans H))) ⟨rfl,rfl⟩) ?_;rintro D j ⟨rfl,rfl⟩;refine kh (R:=λC A=>C=(a.put (some d1) (.slice bK (n+1) cc)).put (some h) (.P b f)/\A=j.setCell ⟨b,f,none⟩ (.slice bK (n+1) cc)) (tV T V L (EI _ _ _ _ _ F (d_ (mY (by rw[iS,hk.size];grind))) (d_ ((fY (Ne.symm hs.2.2.1)).trans (mY (by rw[hk.size];grind))))) ⟨rfl,rfl⟩) ?_;rintro C A ⟨rfl,rfl⟩;exact k _ j _ r1 l F (λs y x=>(fY (Ne.symm x)).trans (fY (Ne.symm y))) (by rw[iS,iS];exact hk.size) GX
def qR(l:eY){l':eY}(e:l=l':=by simp only[av,pa,Tryz.f10,vae,Nat.reduceBEq,vah,↓reduceIte];exact rfl):l=l':=e
def KT(F:Func):Code:=(.seq (.seq (.region 11 (av F 11) false) (.cond (.tmp 76) .skip (.exit 2))) (.seq (.block 3 (.seq (.region 13 (av F 13) true) (.cond (.tmp 127) (.seq (.region 14 (av F 14) false) .ret) .skip))) (.region 12 (av F 12) false)))
def KU(F:Func):Code:=(.seq (.seq (.region 4 (av F 4) false) (.cond (.tmp 20) .skip (.exit 0))) (.seq (.block 1 (.seq (.region 6 (av F 6) false) (.seq (.region 7 (av F 7) false) (.seq (.seq (.region 8 (av F 8) false) (.cond (.tmp 71) (.seq (.region 9 (av F 9) false) .ret) .skip)) (.seq (.region 10 (av F 10) false) (.block 2 (.loop (KT F)))))))) (.region 5 (av F 5) false)))
theorem ayN:f10.body=some (.seq (.region 0 (av f10 0) false) (.seq (.seq (.region 1 (av f10 1) false) (.cond (.tmp 15) (.seq (.region 2 (av f10 2) false) .ret) .skip)) (.seq (.seq (.region 3 (av f10 3) false) (.block 0 (.loop (KU f10)))) (.seq (.region 15 (av f10 15) false) .ret)))):=by kernel_rfl
def Es(c:aG):Prop:=(c.fU.length=c.dk.length/\c.eF=[])\/(c.eF.length=c.dk.length/\c.fU=[])
def xn:(ae prog true).follows .mixedOrders=true:=by decide+kernel
def V0(t:List aG)(c:aG)(i k:Nat):bL:=a2 [(2,eD t),(3,eD t),(5,a5 k),(6,eR nK c),(7,eR nK c),(8,a5 i)]
def nk(l:List (Nat×bb))(s:Nat)(F:bb):∀i G,up (a2 l) s F i=some G->a2 ((s,F)::l) i=some G:=λi G e=>e
def j0{N:Nat}{K:bL}{a:Act}{w:aS}{s:Nat}{b:Bool}(h:af N K a w)(hs:K s=some (dV b)):a.eval (.tmp s)=.bool b:=by obtain⟨v,d,c⟩:=h.has s _ hs;cases c;exact d_ d
def ayO(t:List aG)(c:aG)(hc:Es c)(i k:Nat)(hi:i<c.dk.length){ks ks':il}{Q:uag}{a:Act}{w:aS}(hk:af 128 (V0 t c i k) a w)(kk:∀a' w',af 128 (up (V0 t c i k) 127 (dV false)) a' w'->a'.defers=a.defers->cJ w w'->bI (ae prog true) ks ks' Q a' w'):bI (ae prog true) (.code (.region 13 (av f10 13) true)::ks) ks' Q a w:=by
 rw[qR (av f10 13)];have dK:∀{K':bL},Cw K' [(127,dV false),(2,eD t),(3,eD t),(5,a5 k),(6,eR nK c),(7,eR nK c),(8,a5 i)]->∀a' w',af 128 K' a' w'->af 128 (up (V0 t c i k) 127 (dV false)) a' w':=λh a' w' hk=>(hk.aU h).sub (nk _ _ _);rcases hc with⟨e,d⟩|⟨e,d⟩
 .have b:i<c.fU.length:=by omega
  have g:c.eF.length=0:=AA;exact wR (m:=49) hk (dq Y KM<|dq Y JV<|dq Y JU<|dq Y (ee Y Y Y (vag hi) AX)<|dq Y KP<|dq Y KM<|dq Y JV<|dq Y JU<|dq Y (ee Y Y Y (vag hi) AX)<|dq Y KP<|dq Y (z7 Y Y Y)<|dq Y JU<|cG Y KY<|cG Y JV<|cG Y J9<|cG Y (zW Y Y Jd AX AP)<|cG Y JU<|cG Y KY<|cG Y JV<|cG Y JU<|cG Y (ee Y Y Y (vag b) AX)<|cG Y Jp<|cG Y KY<|cG Y JV<|cG Y JU<|cG Y (ee Y Y Y (vag b) AX)<|cG Y Jp<|cG Y K8<|cG Y KL<|dq Y KL<|dq Y JU<|cG Y LH<|cG Y JV<|cG Y J9<|cG Y (zM Y Y Jd AX AP)<|cG Y JU<|dv Y<|dv Y<|dv Y<|dv Y<|dv Y<|dv Y<|dv Y<|dv Y<|dv Y<|dv Y<|dv Y<|cG Y (ki (F:=dV false) Y Y Jd)<|dq Y KL<|rfl) Y xn AJ λa' w' e d f=>⟨Y,kk a' w' (dK ⟨Y,Y,Y,Y,Y,Y,Y,PJ⟩ a' w' e) d f⟩
 .have b:i<c.eF.length:=by omega
  have g:c.fU.length=0:=AA;exact wR (m:=49) hk (dq Y KM<|dq Y JV<|dq Y JU<|dq Y (ee Y Y Y (vag hi) AX)<|dq Y KP<|dq Y KM<|dq Y JV<|dq Y JU<|dq Y (ee Y Y Y (vag hi) AX)<|dq Y KP<|dq Y (z7 Y Y Y)<|dq Y JU<|cG Y KY<|cG Y JV<|cG Y J9<|cG Y (zM Y Y Jd AX AP)<|cG Y JU<|dv Y<|dv Y<|dv Y<|dv Y<|dv Y<|dv Y<|dv Y<|dv Y<|dv Y<|dv Y<|dv Y<|cG Y (ki (F:=dV false) Y Y Jd)<|dq Y KL<|dq Y JU<|cG Y LH<|cG Y JV<|cG Y J9<|cG Y (zW Y Y Jd AX AP)<|cG Y JU<|cG Y LH<|cG Y JV<|cG Y JU<|cG Y (ee Y Y Y (vag b) AX)<|cG Y (ck Y Y (Uw _) AX)<|cG Y LH<|cG Y JV<|cG Y JU<|cG Y (ee Y Y Y (vag b) AX)<|cG Y (ck Y Y (Uw _) AX)<|cG Y (atw Y Y Y)<|cG Y KL<|dq Y KL<|rfl) Y xn AJ λa' w' e d f=>⟨Y,kk a' w' (dK ⟨Y,Y,Y,Y,Y,Y,Y,PJ⟩ a' w' e) d f⟩
def PP(t:List aG)(c:aG)(k:Nat):bL:=a2 [(6,eR nK c),(7,eR nK c),(2,eD t),(3,eD t),(5,a5 k)]
def ayP(t:List aG)(c:aG)(k:Nat)(hc:Es c)(hl:c.dk.length<9000000000000000000)(b:aS){ks ks':il}{Q:uag}(kk:∀a' w',af 128 (PP t c k) a' w'->a'.defers=[]->cJ b w'->bI (ae prog true) ks ks' Q a' w'):
 ∀m i a w,i+m=c.dk.length->af 128 (up (PP t c k) 8 (a5 i)) a w->a.defers=[]->cJ b w->bI (ae prog true) (.code (KT f10):: .inLoop (KT f10):: .inBlock 2::ks) ks' Q a w:=by
 intro m;induction m with|zero=>intro i a w hi hk hd f;unfold KT;refine bm (bm ?_);rw[qR (av f10 11)];refine cD hk (aq Y JU<|aq Y KM<|aq Y JV<|aq Y J9<|aq Y (vE Y Y Y AX AP)<|rfl) λa1 w1 d d1 b1=>?_;refine fj (t:=false) (j0 d Y) (va (rz:=ks) D2 ?_);exact kk a1 w1 (d.aU ⟨Y,Y,Y,Y,Y,PJ⟩) (d1.trans hd) (f.trans (b1.mono f.size))|succ m q=>intro i a w hi hk hd f;have h:(i:Int)<(c.dk.length:Int):=AP;unfold KT;refine bm (bm ?_);rw[qR (av f10 11)];refine cD hk (aq Y JU<|aq Y KM<|aq Y JV<|aq Y J9<|aq Y (zb Y Y Y AX h)<|rfl) λa1 w1 d d1 b1=>?_;refine fj (t:=true) (j0 d Y) (lN (bm (ln (bm ?_))));have b1:cJ b w1:=f.trans (b1.mono f.size);have d:af 128 (a2 [(2,eD t),(3,eD t),(5,a5 k),(6,eR nK c),(7,eR nK c),(8,a5 i)]) a1 w1:=d.aU ⟨Y,Y,Y,Y,Y,Y,PJ⟩;refine ayO t c hc i k AP d λx p n s g=>?_;have g:cJ b p:=b1.trans (g.mono b1.size);refine fj (t:=false) (j0 n Y) (lN (tT ?_));rw[qR (av f10 12)];refine cD n Jr λu o j r v=>wN ?_;have e:((i:Int)+1)=((i+1:Nat):Int):=AP;rw[e]at j;exact q (i+1) u o AP ((j.aU (l:=[(8,a5 ((i+1:Nat):Int)),(6,eR nK c),(7,eR nK c),(2,eD t),(3,eD t),(5,a5 k)]) ⟨Y,Y,Y,Y,Y,Y,PJ⟩).sub (nk _ _ _)) (r.trans (s.trans (d1.trans hd))) (g.trans (v.mono g.size))
def ayQ(t:List aG)(ht:t.length<9000000000000000000)(hc:∀c∈t,Es c)(hn:∀c∈t,c.dk.length<9000000000000000000)(b:aS){ks ks':il}{Q:uag}(kk:∀a' w',a'.tmps.size=128->a'.defers=[]->cJ b w'->bI (ae prog true) ks ks' Q a' w'):
 ∀m k a w,k+m=t.length->af 128 (a2 [(2,eD t),(3,eD t),(5,a5 (k:Nat))]) a w->a.defers=[]->cJ b w->bI (ae prog true) (.code (KU f10):: .inLoop (KU f10):: .inBlock 0::ks) ks' Q a w:=by
 intro m;induction m with|zero=>intro k a w Y hk hd f;unfold KU;refine bm (bm ?_);rw[qR (av f10 4)];refine cD hk (aq rfl JU<|aq rfl Kh<|aq rfl JV<|aq rfl J9<|aq rfl (vE rfl rfl rfl AX AP)<|rfl) λa1 w1 d d1 b1=>?_;exact fj (t:=false) (j0 d rfl) (va (rz:=ks) D2 (kk a1 w1 d.size (d1.trans hd) (f.trans (b1.mono f.size))))|succ m K=>intro k a w W L hd f;have hk:k<t.length:=AP;have p:(k:Int)<(t.length:Int):=AP;unfold KU;refine bm (bm ?_);rw[qR (av f10 4)];refine cD L (aq rfl JU<|aq rfl Kh<|aq rfl JV<|aq rfl J9<|aq rfl (zb rfl rfl rfl AX p)<|rfl) λa1 w1 d d1 b1=>?_;refine fj (t:=true) (j0 d rfl) (lN (bm (ln (bm ?_))));have b1:cJ b w1:=f.trans (b1.mono f.size);have d1:=d1.trans hd;have d:af 128 (a2 [(2,eD t),(3,eD t),(5,a5 (k:Nat))]) a1 w1:=d.aU ⟨rfl,rfl,rfl,PJ⟩;rw[qR (av f10 6)];refine GF (m:=5) d (aq rfl Kh<|aq rfl JV<|aq rfl JU<|aq rfl (ee rfl rfl rfl (vag hk) AX)<|aq rfl (ji rfl rfl)<|rfl) AX λZ D I U n=>?_;have n:cJ b D:=b1.trans (n.mono b1.size);refine nT (i:=5) rfl rfl rfl rfl rfl I rfl rfl rfl rfl AX AX λV v o T l=>rE (bm ?_);have l:cJ b v:=n.trans (l.mono n.size);have o:af 128 (a2 [(6,eR nK t[k]),(2,eD t),(3,eD t),(5,a5 (k:Nat))]) V v:=o.aU ⟨rfl,rfl,rfl,rfl,PJ⟩;rw[qR (av f10 7)];refine GF (m:=5) o (aq rfl Kh<|aq rfl JV<|aq rfl JU<|aq rfl (ee rfl rfl rfl (vag hk) AX)<|aq rfl (ji rfl rfl)<|rfl) AX λbO C H S a8=>?_;have a8:cJ b C:=l.trans (a8.mono l.size);refine nT (i:=5) rfl rfl rfl rfl rfl H rfl rfl rfl rfl AX AX λM er q R bt=>rE (bm (bm ?_));have bt:cJ b er:=a8.trans (bt.mono a8.size);have q:af 128 (a2 [(6,eR nK t[k]),(7,eR nK t[k]),(2,eD t),(3,eD t),(5,a5 (k:Nat))]) M er:=q.aU ⟨rfl,rfl,rfl,rfl,rfl,PJ⟩;rw[qR (av f10 8)];refine cD q (aq rfl (hP rfl rfl AX Uu)<|aq rfl Jp<|aq rfl (hP rfl rfl AX Uu)<|aq rfl Jp<|aq rfl K8<|aq rfl JU<|eV rfl (hP rfl rfl AX Uv)<|eV rfl Jp<|eV rfl (hP rfl rfl AX Uv)<|eV rfl Jp<|eV rfl K8<|aq rfl KL<|aq rfl JU<|eV rfl KM<|eV rfl JV<|eV rfl J9<|eV rfl KM<|eV rfl JV<|eV rfl J9<|eV rfl K8<|aq rfl KL<|aq rfl JU<|eV rfl KY<|eV rfl JV<|eV rfl J9<|eV rfl KY<|eV rfl JV<|eV rfl J9<|eV rfl K8<|aq rfl KL<|aq rfl JU<|eV rfl LH<|eV rfl JV<|eV rfl J9<|eV rfl LH<|eV rfl JV<|eV rfl J9<|eV rfl K8<|aq rfl KL<|rfl) λJ A h P j=>?_;have j:cJ b A:=bt.trans (j.mono bt.size);refine fj (t:=false) (j0 h rfl) (lN (bm ?_));have h:af 128 (PP t t[k] k) J A:=h.aU ⟨rfl,rfl,rfl,rfl,rfl,PJ⟩;rw[qR (av f10 10)];refine cD h (aq rfl (df (F:=a5 0) rfl Jd)<|rfl) λz x E r cK=>ln (wM ?_);have cK:cJ b x:=j.trans (cK.mono j.size);have r:z.defers=[]:=r.trans (P.trans (R.trans (S.trans (T.trans (U.trans d1)))));refine ayP t t[k] k (hc _ (vax hk)) (hn _ (vax hk)) b (λAb FM B O y=>tT ?_) _ 0 z x (vbm _) E r cK;unfold PP at B;rw[qR (av f10 5)];refine cD B Jr λu s g N X=>wN ?_;have e:((k:Int)+1)=((k+1:Nat):Int):=AP;rw[e]at g;exact K (k+1) u s AP (g.aU ⟨rfl,rfl,rfl,PJ⟩) (N.trans O) (y.trans (X.mono y.size))
def ayT(t:List aG)(ht:t.length<9000000000000000000)(hc:∀c∈t,Es c)(hn:∀c∈t,c.dk.length<9000000000000000000)(v1 v2:Value)(w:aS)(u:ub t w v1)(r:ub t w v2):Calls (ae prog true) 10 #[v1,v2] w λe w'=>∃v,e=.returned v/\v=.T/\cJ w w':=by
 refine VY (ks:=[]) (bw (upd:=true) func10 AJ) ayN ?_;have hk:af 128 (a2 [(0,k8 t),(1,k8 t)]) ⟨#[v1,v2]++Array.replicate (f10.ntmps-(#[v1,v2]:dp).size) undef,[]⟩ w:=Uy (l:=[v1,v2]) Ad BJ λp h=>by
  simp at h;rcases h with rfl|rfl
  .exact⟨v1,Y,u⟩
  .exact⟨v2,Y,r⟩
 have hd:(⟨#[v1,v2]++Array.replicate (f10.ntmps-(#[v1,v2]:dp).size) undef,[]⟩:Act).defers=[]:=rfl;generalize(⟨#[v1,v2]++Array.replicate (f10.ntmps-(#[v1,v2]:dp).size) undef,[]⟩:Act)=a at hk hd;refine bm ?_;rw[qR (av f10 0)];refine cD hk (aq Y (VX Y Y)<|aq Y (VX Y Y)<|aq Y (df (F:=dV false) Y Jd)<|rfl) λa1 w1 d d1 b1=>bm (bm ?_);have d:af 128 (a2 [(2,eD t),(3,eD t)]) a1 w1:=d.aU ⟨Y,Y,PJ⟩;rw[qR (av f10 1)];refine cD d (aq Y Kh<|aq Y JV<|aq Y J9<|aq Y Kh<|aq Y JV<|aq Y J9<|aq Y K8<|rfl) λC m b A j=>fj (t:=false) (j0 b Y) (lN (bm (bm ?_)));have b:af 128 (a2 [(2,eD t),(3,eD t)]) C m:=b.aU ⟨Y,Y,PJ⟩;rw[qR (av f10 3)];refine cD b (aq Y (df (F:=a5 0) Y Jd)<|rfl) λB g o z f=>ln (wM ?_);have f:cJ w g:=(b1.trans (j.mono b1.size)).trans (f.mono (b1.trans (j.mono b1.size)).size);refine ayQ t ht hc hn w (λD k E y a8=>bm ?_) _ 0 B g (vbm _) (o.aU ⟨Y,Y,Y,PJ⟩) (z.trans (A.trans (d1.trans hd))) f;have n:af 128 (a2 []) D k:=⟨E,λs F e=>Cn⟩;rw[qR (av f10 15)];refine cD n (aq Y (df (F:=dV true) Y Jd)<|rfl) λJ er i x bt=>kf ⟨x.trans y,.T,?_,Y,a8.trans (bt.mono a8.size)⟩;have I:=j0 (s:=4) i Y;obtain⟨v,H,q⟩:=i.has 4 (dV true) Y;cases q;simp_all[results]
end a3
namespace eC
open RowKit ax bS cq a3
def M3{ao:Type}{l:List ao}{i:Nat}(h:i<l.length)(d:ao):l[i]?.getD d=l[i]:=by simp[h]
def rowAt(t:List aG)(i:Nat):aZ:=([((0+i:Nat):Int)],t.map (hR · (0+i)))
def nh(t:List aG)(S:Nat):hY t 0 S=(List.range S).map (rowAt t):=by simp[hY,rowAt]
theorem ayU(rs:List fA):ek (ew rs)=[(1,0),(1,0),(2,2),(3,0)]:=rfl
def V1(rs:List fA){c:aG}(hc:c∈ew rs)(i:Nat):(hR c i).text.size<=2:=by
 unfold hR;split
 .decide
 split
 .simp[ew]at hc;rcases hc with rfl|rfl|rfl|rfl
  .exact show ko.size<=2 by decide
  .exact show ko.size<=2 by decide
  .exact show ko.size<=2 by decide
  .show((rs.map λr=>o9 r.2.2.2).getD i ko).size<=2;rw[vel,vbd];cases rs[i]? with|none=>decide|some r=>exact OL _
 .exact show ko.size<=2 by decide
def nP(c:aG)(want:uaa):aG:=⟨c.kind,c.bV,if c.kind=3 then []else want.map λi=>c.fU.getD i 0,if c.kind=3 then want.map λi=>c.eF.getD i ko else [],want.map λi=>c.dk.getD i false⟩
def A1(t:List aG)(want:uaa):List aG:=t.map (nP · want)
def m9{c:aG}{i:Nat}:(hR c i).dH=c.dk.getD i false:=by
 unfold hR;split
 .rename_i h;rw[h];rfl
 .rename_i h;have h:c.dk.getD i false=false:=EJ;rw[h];split<;>rfl
end eC
namespace zn
open Conc ConcM RowKit ax bp cI dm bS cq eC a3
variable{Post:uab}
section
variable{O:gJ}
def PU(bG iB:List aG)(gj qO k:Nat):List aG:=kz (ek bG++ek iB) (jz (sX bG iB gj qO k)) (sX bG iB gj qO k).length
section
variable{bG:List aG}{gj k:Nat}{ty:ubl}(A:Kv bG gj k ty)(hl:bG.length+bG.length<=8)
include A hl
theorem WG(m:(sX bG bG gj gj k).length<=300){W ak:Nat}(e:0<W)(d:W<=16)(c:0<ak)(b:ak<=64)(M:dh)(w:aS)(be bB:Value)(j:aJ (bQ M) #[be,bB] #[be,bB])(g:vI [bG] w be)(f:t_ (k:Int) w bB):
 gi O prog Post 9 #[be,bB,.I W,.I ak,.I 0,.I 9223372036854775807] M w 3 (λu _ w'=>ua (PU bG bG gj gj k) w' u/\cy M w w'):=
 avS (f7:=qM [bG]) (f8:=qN (k:Int)) (λ_=>trivial) (λ_=>trivial) j g f e d c b (mE:=3) AP (by simp[ek];omega) AP (λr a=>by rw[(Kw A A hl a).2.1];simp[ek]) (λr a=>(Kw A A hl a).2.2) (pe A hl) λM w be bB i t n=>(pd A hl e d c b M w be bB i t n).mono λu M w⟨p,l⟩=>⟨(p.resolve_right λh=>AP).2,l⟩
theorem WA(a:(sX bG bG gj gj k).length<=300){x y:Int}(e:cT x)(d:cT y)(M:dh)(w:aS)(be bB:Value)(l:aJ (bQ M) #[be,bB] #[be,bB])(c:vI [bG] w be)(b:t_ (k:Int) w bB):
 gi O prog Post 6 #[.agg #[.I x,.I y],be,bB] M w 3 (λu _ w'=>Eb (PU bG bG gj gj k) w' u/\cy M w w'):=
 awj (f7:=qM [bG]) (f8:=qN (k:Int)) (λ_=>trivial) (λ_=>trivial) e d l c b λW ak j i h g M w be bB f t n=>WG A hl a j i h g M w be bB f t n
theorem Wy{ig ii:Nat}(m:ig<=1000000)(o:ii<=9223372036854775807)(q:(sX bG bG gj gj k).length<=300){W ak:Nat}(e:0<W)(d:W<=16)(c:0<ak)(b:ak<=64)(M:dh)(w:aS)(be bB:Value)(j:aJ (bQ M) #[be,bB] #[be,bB])(g:vI [bG] w be)(f:t_ (k:Int) w bB):
 gi O prog Post 9 #[be,bB,.I W,.I ak,.I (ig:Int),.I (ii:Int)] M w 3 (λu _ w'=>ua (kz (ek bG++ek bG) (jz (jl ig ii (sX bG bG gj gj k))) (jl ig ii (sX bG bG gj gj k)).length) w' u/\cy M w w'):=
 pn (f7:=qM [bG]) (f8:=qN (k:Int)) m o (λ_=>trivial) (λ_=>trivial) j g f e d c b (mE:=3) AP (by simp[ek];omega) AP (λr a=>by rw[(Kw A A hl a).2.1];simp[ek]) (λr a=>(Kw A A hl a).2.2) (pe A hl) λM w be bB i t n=>(pd A hl e d c b M w be bB i t n).mono λu M w⟨p,l⟩=>⟨(p.resolve_right λh=>AP).2,l⟩
