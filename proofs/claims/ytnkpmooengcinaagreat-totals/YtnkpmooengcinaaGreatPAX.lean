import Derived.Test.YtnkpmooengcinaaGreatPAW
set_option linter.all false
set_option maxRecDepth 100000
set_option maxHeartbeats 16000000
namespace Go.Proofs.YtnkpmooengcinaaGreat
open Go.Proofs.Tryz
namespace bj
open Conc ConcM RowKit av bn cW dv bB cv iD
section
variable{O:gp}
def S8{P:ck}{Post:fE}{n:Nat}{Shun:uan}{M:c5}{w:aH}{f:ual}{a:Act}{k k':uab}{cs:fA}{n0:Nat}{aD:c5}{w0:aH}(u:(cJ P).Good)(t:jX P f){s s':Nat}{x y:Value}(r:ap (bU M) x x)(q:ap (bU M) y y)(H:Held O P aD w0 n0 a M w Shun)(hk:k.all (fM P)=true)(A:k'.all (fM P)=true){I J:uak}(hI:oM n0 I)(z:oM n0 J)(h0:I a w)(hrun:∀W,n0<=W.heap.size->I a W->cb (aa P true) k k' (λa1 w1=>a1.defers=[]/\(a1.tmps[s]?=some x/\a1.tmps[s']?=some y)/\J a1 w1/\Below n0 W w1) a W)(B:∀a' M' w',Held O P aD w0 n0 a' M' w' Shun->(a'.tmps[s]?=some x/\a'.tmps[s']?=some y)->J a' w'->ca P Post n Shun 0 (bf ((base f).at a' k') cs) w'):
 ca P Post n Shun 0 (bf ((base f).at a k) cs) w:=by
 refine X6 u H.fk t H.all H.defers hk A (Q:=λd a1 w1=>(a1.tmps[s]?=some x/\a1.tmps[s']?=some y)/\J a1 w1/\∃T,Below n0 {d with tape:=T} w1) (λd i T b cs=>?_) ?_
 .obtain⟨a1,w1,⟨m,g,l,c⟩,j⟩:=hrun {d with tape:=T} (by show n0<=d.heap.size;rw[i.size];exact H.size) (hI _ _ _ _ _ (H.fk.lA i T) H.all h0) b cs;exact⟨a1,w1,⟨m,g,l,T,c⟩,j⟩
 .rintro ρ d a1 w1 a' w' i ⟨g,m,T,l⟩ c j h;have key:∀(s:Nat) v,ap (bU M) v v->a1.tmps[s]?=some v->a'.tmps[s]?=some v:=λs v hv e=>by obtain⟨v',p,o⟩:=c.some e;rw[p,h.same hv o]
  exact B a' (pA ρ) w' (H.next i h l (h.all c) j) ⟨key _ _ r g.1,key _ _ q g.2⟩ (z _ _ _ _ _ (h.lA H.size) c m)
def M_:fG prog true f11=true:=by decide+kernel
def aqs:∃o ats,(aP f11 5)[4]?=some o/\o.op=.call {callee:=.value (.func 18),args:=#[.tmp 25,.tmp 26,.tmp 27,.tmp 28],argTypes:=ats}/\o.guard=none/\o.dst=some 29:=⟨_,_,U,U,U,U⟩
section
variable{Post:fE}{M:c5}{w:aH}{aZ:Value}{bJ:uad}{cap:Nat}{ns:List sB}{ts:List (List bQ)}{ez:List (List dg)}{W ab:Int}{cs:fA}
def KD{cp:bg}(hok:cp.ok=λ_=>True)(n:∃Shun,Home O prog M Shun w)(R:ap (bU M) aZ aZ)(Q:ap (bU M) (.slice bJ ns.length cap) (.slice bJ ns.length cap))(ht:(cP 1 k9 ts).R w aZ)(qb:(cP 7 n9 ns).R w (.slice bJ ns.length cap))(a5:ns.length<=1000){k:Nat}(AE:k<ns.length)(wu:(ez.take k).length=k)(hw:∀args M w,aL (bU M) args args->af 86 (be [(0,nC ns[k]),(1,cP 1 k9 ts),(2,cP 1 n8 (ez.take k)),(3,kx W ab)]) ⟨args++Array.replicate (86-args.size) undef,[]⟩ w->eb O prog Post 18 args M w 2 (λu _ w'=>cp.R w' u/\cO M w w')){a':Act}{M':c5}{w':aH}{r:Nat}{Y:uan}(ll:r+32<=200)(m:Held O prog M w w.heap.size a' M' w' Y)(hs:a'.tmps[0]?=some aZ/\a'.tmps[17]?=some (.slice bJ ns.length cap))(hI:af 57 (be (l7 w.heap.size ns.length (ez.take k) W ab k)) a' w')(c0:∀a t f q p,q<=r+32->Held O prog M w w.heap.size a t f p->(a.tmps[0]?=some aZ/\a.tmps[17]?=some (.slice bJ ns.length cap))->af 57 (be ((29,cp)::(10,a3 k)::l7 w.heap.size ns.length (ez.take k) W ab k)) a f->ca prog Post q p 0 (bf ((base 11).at a (.R (aP f11 5) (List.range' 5 5)::DI f11)) cs) f):
 ca prog Post r Y 0 (bf ((base 11).at a' (vv f11)) cs) w':=by
 obtain⟨Shun,n⟩:=n;have U:jX prog 11:=B5 func11 M_ Gg;have S:cO M w w':=λb c e z V hx=>m.keep b c e z ⟨V,n.lt V⟩ hx;have np:=vas AE;have sub:∀{M'},(∀b,M b->M' b)->ap (bU M') aZ aZ/\ap (bU M') (.slice bJ ns.length cap) (.slice bJ ns.length cap):=λh=>⟨R.mono (uH h),Q.mono (uH h)⟩;refine S8 l5 U (sub m.sub).1 (sub m.sub).2 m (k':=.R (aP f11 5) (List.range' 4 6)::DI f11) AT AT (s:=0) (s':=17) (I:=af 57 (be ((0,cP 1 k9 ts)::(17,cP 7 n9 ns)::l7 w.heap.size ns.length (ez.take k) W ab k))) (J:=af 57 (be ((27,cP 1 n8 (ez.take k))::(25,nC ns[k])::(26,cP 1 k9 ts)::(28,kx W ab)::(10,a3 k)::l7 w.heap.size ns.length (ez.take k) W ab k))) (gY _ (e7 ⟨PA,PA,rfl,rfl,PA,PA,PA,PA⟩)) (gY _ (e7 ⟨PA,PA,PA,PA,PA,rfl,rfl,PA,PA,PA,PA⟩)) (bX hs.1 ((cP 1 k9 ts).gX 0 trivial _ _ _ _ _ (S.lA n) R ht)<|bX hs.2 ((cP 7 n9 ns).gX 0 trivial _ _ _ _ _ (S.lA n) Q qb) hI) (λW1 hW hI=>?_) λbA Z w2 j T g=>?_
 .obtain⟨v,X,aT⟩:=hI.has 0 _ rfl;obtain⟨u,P,q4⟩:=hI.has 17 _ rfl;rw[hs.1]at X;rw[hs.2]at P;cases X;cases P;exact ap3 wu a5 AE np m.defers hW hs.1 hs.2 aT q4 (hI.a7 ⟨rfl,rfl,rfl,rfl,rfl,PA⟩)
 obtain⟨o,ats,ho,y,c6,gI⟩:=aqs;refine X_ (i:=4) (rest:=List.range' 5 5) (d:=2) y func18 AU S7 AY U j AT ho c6 ⟨gI,by rw[g.size];decide⟩ (I:=af 57 (be ((27,cP 1 n8 (ez.take k))::(25,nC ns[k])::(26,cP 1 k9 ts)::(28,kx W ab)::(10,a3 k)::l7 w.heap.size ns.length (ez.take k) W ab k))) (J:=λa f=>(a.tmps[0]?=some aZ/\a.tmps[17]?=some (.slice bJ ns.length cap))/\af 57 (be ((29,cp)::(10,a3 k)::l7 w.heap.size ns.length (ez.take k) W ab k)) a f) (ie:=cp.R) (gY _ (e7 ⟨PA,PA,PA,PA,PA,rfl,rfl,PA,PA,PA,PA⟩)) g (λk'=>?_) (λu f h1 h2=>?_) λa t f q p S9 hL⟨kW,qG⟩=>?_
 .have g:=gY (N:=57) (K:=be ((27,cP 1 n8 (ez.take k))::(25,nC ns[k])::(26,cP 1 k9 ts)::(28,kx W ab)::(10,a3 k)::l7 w.heap.size ns.length (ez.take k) W ab k)) w.heap.size (e7 ⟨PA,PA,PA,PA,PA,rfl,rfl,PA,PA,PA,PA⟩) _ _ _ _ _ ((show cO Z w2 (w2.at k')from λ_ _ _ _ _ x=>x).lA j.fk) j.all g;obtain⟨v25,L,D⟩:=g.has 25 _ rfl;obtain⟨v26,H,C⟩:=g.has 26 _ rfl;obtain⟨v27,F,B⟩:=g.has 27 _ rfl;obtain⟨v28,E,A⟩:=g.has 28 _ rfl;rw[show(#[Operand.tmp 25,.tmp 26,.tmp 27,.tmp 28].map bA.eval)=#[v25,v26,v27,v28]from by simp[cd L,cd H,cd F,cd E]];exact hw _ Z (w2.at k') (kO (l:=[v25,v26,v27,v28]) λv hv=>by
   simp only[vbc,vbr,vds]at hv;rcases hv with rfl|rfl|rfl|rfl
   .exact j.all.get _ _ _ L L
   .exact j.all.get _ _ _ H H
   .exact j.all.get _ _ _ F F
   .exact j.all.get _ _ _ E E) (bX (v:=v25) I4 D<|bX (v:=v26) I4 C<|bX (v:=v27) I4 B<|bX (v:=v28) I4 A<|mF Ab)
 .exact⟨⟨(et AX).trans T.1,(et AX).trans T.2⟩,(h1.put AX (vaa _ _) h2).a7 ⟨rfl,rfl,rfl,rfl,rfl,rfl,rfl,PA⟩⟩
 .exact c0 a t f q p AY hL kW qG
def Kf{m n:Nat}{Shun:uan}(r:aL (bU M) #[aZ,.slice bJ ns.length cap,.agg #[.I W,.I ab]] #[aZ,.slice bJ ns.length cap,.agg #[.I W,.I ab]])(ht:(cP 1 k9 ts).R w aZ)(L:(cP 7 n9 ns).R w (.slice bJ ns.length cap))(hl:ez.length=m)(hm:m<=ns.length)(a5:ns.length<=1000)(o:∀x∈ez,x.length<=300/\Full x)(hn:n+32*m<=200)(C:Home O prog M Shun w)(V:∀(k:Nat) gF x,ns[k]?=some gF->ez[k]?=some x->∀args M w,aL (bU M) args args->af 86 (be [(0,nC gF),(1,cP 1 k9 ts),(2,cP 1 n8 (ez.take k)),(3,kx W ab)]) ⟨args++Array.replicate (86-args.size) undef,[]⟩ w->eb O prog Post 18 args M w 2 (λu _ w'=>(rp x).R w' u/\cO M w w'))(Y:∀a' M' w' b c,b<=n+32*m->Held O prog M w w.heap.size a' M' w' c->(a'.tmps[0]?=some aZ/\a'.tmps[17]?=some (.slice bJ ns.length cap))->af 57 (be (l7 w.heap.size ns.length ez W ab m)) a' w'->ca prog Post b c 0 (bf ((base 11).at a' (vv f11)) cs) w'):
 ca prog Post n Shun 0 (bf (Frame.enter prog 11 #[aZ,.slice bJ ns.length cap,.agg #[.I W,.I ab]] .normal) cs) w:=by
 have B:jX prog 11:=B5 func11 M_ Gg;rw[vcf func11 Gg];have g:=r.get 0 _ _ rfl rfl;have f:=r.get 1 _ _ rfl rfl;have loop:∀j k,k+j=m->∀a' M' w' b c,b<=n+32*k->Held O prog M w w.heap.size a' M' w' c->(a'.tmps[0]?=some aZ/\a'.tmps[17]?=some (.slice bJ ns.length cap))->af 57 (be (l7 w.heap.size ns.length (ez.take k) W ab k)) a' w'->ca prog Post b c 0 (bf ((base 11).at a' (vv f11)) cs) w':=by
  intro j;induction j with
  |zero=>intro k hk a' M' w' b c z q hs hI;obtain rfl:k=m:=hk;rw[vcp AY]at hI;exact Y a' M' w' b c z q hs hI
  |succ j T=>intro k hk a' M' w' b c z q hs hI;have t:k<ns.length:=AY;have y:(ez.take k).length=k:=BC;have U:=vas (l:=ez) (i:=k) AY;have d:ez[k]∈ez:=vdq _;refine KD (cp:=rp ez[k]) rfl ⟨Shun,C⟩ g f ht L a5 t y (V k _ _ (vas t) U) AY q hs hI λbR kf w3 Q E S9 e A N=>?_;refine S8 l5 B (g.mono (uH e.sub)) (f.mono (uH e.sub)) e (k':=vv f11) AT AT (s:=0) (s':=17) (I:=af 57 (be ((29,rp ez[k])::l7 w.heap.size ns.length (ez.take k) W ab k))) (J:=af 57 (be (l7 w.heap.size ns.length (ez.take k++[ez[k]]) W ab (k+1)))) (gY _ (e7 ⟨PA,rfl,rfl,PA,PA,PA,PA⟩)) (gY _ (e7 ⟨rfl,rfl,PA,PA,PA,PA⟩)) (N.a7 ⟨rfl,rfl,rfl,rfl,rfl,rfl,PA⟩) (λW1 p hI=>ap8 y a5 t (o _ d).1 (o _ d).2 (λx h=>(o x (List.mem_of_mem_take h)).2) e.defers p A.1 A.2 hI) λX Jz F K OW D=>?_;rw[List.take_append_getElem AY]at D;exact T (k+1) AY X Jz F Q E AY K OW D
 have H:=Held.start (n0:=w.heap.size) C IB (a:=⟨#[aZ,.slice bJ ns.length cap,.agg #[.I W,.I ab]]++Array.replicate 54 undef,[]⟩) (r.append (Gc _ _)) rfl;exact S8 l5 B g f H (k':=vv f11) AT AT (s:=0) (s':=17) (I:=af 57 (be [(2,kx W ab),(3,mX)])) (J:=af 57 (be (l7 w.heap.size ns.length [] W ab 0))) (gY _ (e7 ⟨PA,PA,PA⟩)) (gY _ (e7 ⟨rfl,rfl,PA,PA,PA,PA⟩)) (bX (v:=.agg #[.I W,.I ab]) I4 rfl<|bX (v:=undef) Ab rfl<|mF Ab) (λW1 p hI=>ap2 a5 rfl p (bX (v:=aZ) I4 rfl<|bX (v:=.slice bJ ns.length cap) I4 rfl hI)) λZ M2 w2 R S P=>loop m 0 (vby _) Z M2 w2 n Shun IB R S P
end
def aqx{Post:fE}{M:c5}{w:aH}{aZ br:Value}{ns:List sB}{ts:List (List bQ)}{ez:List (List dg)}{rs:List dg}{W ab:Int}(A:aL (bU M) #[aZ,br,.agg #[.I W,.I ab]] #[aZ,br,.agg #[.I W,.I ab]])(ht:(cP 1 k9 ts).R w aZ)(a:(cP 7 n9 ns).R w br)(d:ez.length=ns.length)(h0:0<ns.length)(a5:ns.length<=1000)(p:∀x∈ez,x.length<=300/\Full x)(F:ez[ns.length-1]?=some rs)(o:∀(k:Nat) gF x,ns[k]?=some gF->ez[k]?=some x->∀args M w,aL (bU M) args args->af 86 (be [(0,nC gF),(1,cP 1 k9 ts),(2,cP 1 n8 (ez.take k)),(3,kx W ab)]) ⟨args++Array.replicate (86-args.size) undef,[]⟩ w->eb O prog Post 18 args M w 2 (λu _ w'=>(rp x).R w' u/\cO M w w')):
 eb O prog Post 11 #[aZ,br,.agg #[.I W,.I ab]] M w (2*ns.length) (λu _ w'=>Gf rs w' u/\cO M w w'):=by
 intro n Shun hn h J aF az aI aK aG csZ q B;obtain⟨bJ,cap,rfl,-,-⟩:=id a;refine Kf A ht a d IB a5 p AY h o λa' M' w' j D H g hs hI=>?_;refine Fl l5 func11 M_ Gg g AT q (I:=af 57 (be (l7 w.heap.size ns.length ez W ab ns.length))) (gV:=Gf rs) (gY _ (e7 ⟨U,U,PA,PA,PA,PA⟩)) (OL _) hI (λK r hI=>aqj d h0 a5 F g.defers r hI) λu l i y v t s E C=>B u l i j D AY y v t s ⟨C,λb c e z f m=>E b c e z ⟨f,h.lt f⟩ m⟩
end
end bj
namespace bj
open Conc ConcM RowKit av bn cW dv bB cv
variable{v:Value}
section
variable{n0:Nat}
def NB(n0:Nat)(T:uaa)(N:Nat)(w:aH)(v:Value):Prop:=∃b cs,v=.P b 0/\n0<=b/\ag w b cs T/\cs.size=N
def ash(T:uaa)(N:Nat):my n0 (NB n0 T N):=by rintro ρ w w' v v' a hv ⟨b,cs,rfl,hn,c,hs⟩;obtain⟨g,rfl,r⟩:=wH hv;obtain⟨f,e,d⟩:=a.types _ _ _ _ _ r c;exact⟨g,f,U,a.new _ _ r hn,e,d.trans hs⟩
def vN(t:List bQ)(w:aH)(v:Value):Prop:=∃ba jn cL v',v=.S ba jn 1 cL/\w.cell? (.a ba jn)=some v'/\nV w v' t
def asi(t:List bQ):my n0 (vN t):=by rintro ρ w w' v v' b hv ⟨ba,a,cL,x,rfl,h,g⟩;obtain⟨c,rfl,r⟩:=qp hv;obtain⟨d,f,e⟩:=b.cells ⟨ba,a,none⟩ ⟨c,a,none⟩ x ⟨r,U,U⟩ h;exact⟨c,a,cL,d,U,f,av.bw.carry wA b.cells e g⟩
def xH{ρ:Ren}{w w':aH}(u:Carry ρ w w'){e c no:Nat}(r:ρ.rel e c){op d:Int}{f:uad}{n gc:Nat}(h:zd w e no op d f n gc):∃b,ap ρ (.slice f n gc) (.slice b n gc)/\zd w' c no op d b n gc:=by have key:∀j v,(fR op d f n gc)[j]?=some v->∃v',w'.cell? (.a c (no+j))=some v'/\ap ρ v v':=λj v a=>u ⟨e,no+j,none⟩ ⟨c,no+j,none⟩ v ⟨r,U,U⟩ (h j v a);obtain⟨A,h0,y⟩:=key 0 _ U;obtain⟨H,m,t⟩:=key 1 _ U;obtain⟨F,l,s⟩:=key 2 _ U;obtain⟨E,k,q⟩:=key 3 _ U;obtain⟨D,i,p⟩:=key 4 _ U;obtain⟨C,o,x⟩:=key 5 _ U;obtain⟨B,z,g⟩:=key 6 _ U;rw[d9 y]at h0;rw[d9 t]at m;rw[d9 s]at l;rw[gW q]at k;rw[gW p]at i;rw[gW x]at o;obtain⟨b,rfl⟩:=Iv g;refine⟨b,g,λj v a=>?_⟩;match j with|0=>cases a;exact h0|1=>cases a;exact m|2=>cases a;exact l|3=>cases a;exact k|4=>cases a;exact i|5=>cases a;exact o|6=>cases a;exact z|j+7=>simp[fR]at a
def ua(w:aH)(v:Value):Prop:=∃c7 no g9 aA aR gc,v=.S c7 no 2 g9/\AH w c7 no aA aR gc
def asj:my n0 ua:=by rintro ρ w w' v v' a hv ⟨s,no,g,aA,aR,gc,rfl,h⟩;obtain⟨k,rfl,r⟩:=qp hv;obtain⟨o,j,c⟩:=xH a.cells r h.n0;have:=gW j;rw[Value.slice.injEq]at this;rw[this.1]at c;obtain⟨n,f,e⟩:=xH a.cells r h.n1;obtain⟨g',i,b⟩:=qp f;cases i;obtain⟨q,g1,m⟩:=a.cells ⟨aA,aR,none⟩ ⟨g',aR,none⟩ _ ⟨b,U,U⟩ h.kind;obtain⟨p,d,l⟩:=a.cells ⟨aA,aR+1,none⟩ ⟨g',aR+1,none⟩ _ ⟨b,U,U⟩ h.jK;rw[d9 m]at g1;rw[d9 l]at d;exact⟨k,no,g,g',aR,gc,U,c,e,g1,d⟩
theorem ua.keeps{w w':aH}(h:ua w v)(c:bm w w'):ua w' v:=by obtain⟨b,no,a,aA,aR,gc,rfl,h⟩:=h;exact⟨b,no,a,aA,aR,gc,U,h.keeps c⟩
def D3:List sB:=[(1,0,[]),(5,0,[(2,0)])]
def xG{w:aH}(h:ua w v):(cP 7 n9 D3).R w v:=by
 obtain⟨j,no,g,aA,aR,gc,rfl,h⟩:=h;refine⟨_,g,U,by simp[D3],λi hi=>⟨j,no,U,?_⟩⟩;obtain rfl|rfl:i=0\/i=1:=by grind[D3]
 .obtain⟨f,d1,e,d,c,b,a⟩:=DV h.n0;exact⟨_,⟨by grind[D3],by grind[D3],AN,AN,AN,AN,AN⟩,bw.nil _ _ _⟩
 .obtain⟨f,d1,e,d,c,b,a⟩:=DV h.n1;exact⟨_,⟨f,d1,e,d,c,b,a⟩,J5 h.kind h.jK⟩
def xF{t:List bQ}{w:aH}(h:vN t w v):(cP 1 k9 [t]).R w v:=by obtain⟨ba,a,cL,x,rfl,c,b⟩:=h;refine⟨_,_,U,Ab,λi hi=>⟨ba,a,U,x,?_⟩⟩;grind
def TD(N:Nat)(l:uah)(w:aH)(x:Value):Prop:=∃g c v,x=.S g 0 N c/\w.cell? (.a g (N-1))=some v/\gR w v l
def asl(N:Nat)(l:uah):my n0 (TD N l):=by rintro ρ w w' v v' a hv ⟨g,c,x,rfl,i,h⟩;obtain⟨b,rfl,r⟩:=qp hv;obtain⟨d,f,e⟩:=a.cells ⟨g,N-1,none⟩ ⟨b,N-1,none⟩ x ⟨r,U,U⟩ i;exact⟨b,c,d,U,f,av.bw.carry Qv a.cells e h⟩
def NE{ρ:Ren}{w w':aH}(f:tD n0 ρ w w'){v':Value}(hv:ap ρ v v'){e:uaa}(h:vM w v e):vM w' v' e:=by
 intro b d;cases hv with
 |@slice a a' l c r=>simp[Value.ownBlock]at d;subst d;obtain⟨c,z,g⟩:=h a.block U;obtain⟨j,i,-⟩:=f.types _ _ _ _ _ r.1 g;grind
 | _=>cases d
def NF(t:List bQ):my n0 λw v=>o5 w v t:=by rintro ρ w w' v v' a hv ⟨⟨bJ,cap,rfl,z,I⟩,ht⟩;obtain⟨K,rfl⟩:=Iv hv;refine⟨⟨K,cap,U,z,λi hi=>?_⟩,NE a hv ht⟩;obtain⟨b,off,rfl,b9,vs,N,h0,D,C,B,A,d,o,n,m⟩:=I i hi;obtain⟨c,e,r⟩:=qp hv;cases e;have key:∀j x,w.cell? (.a b (off+i*5+j))=some x->∃f,w'.cell? (.a c (off+i*5+j))=some f/\ap ρ x f:=λj x y=>a.cells ⟨b,off+i*5+j,none⟩ ⟨c,off+i*5+j,none⟩ x ⟨r,U,U⟩ y;obtain⟨L,l,H⟩:=key 0 _ h0;obtain⟨M,g1,s⟩:=key 1 _ D;obtain⟨J,E,k⟩:=key 2 _ C;obtain⟨F,u,h⟩:=key 3 _ B;obtain⟨q,p,g⟩:=key 4 _ A;rw[d9 H]at l;rw[d9 s]at g1;exact⟨c,off,U,J,F,q,l,g1,E,u,p,⟨av.bw.carry BT a.cells k d.k7,av.bw.carry Qu a.cells h d.jC,av.bw.carry LS a.cells g d.j_⟩,NE a k o,NE a h n,NE a g m⟩
def zi(t:List bQ)(w:aH)(u:Value):Prop:=∃a_,u=.tuple #[.agg #[a_],.I 0,rq]/\o5 w a_ t
def asm(t:List bQ):my n0 (zi t):=by
 rintro ρ w w' v v' a hv ⟨a_,rfl,h⟩;obtain⟨f,rfl,k⟩:=x8 hv;cases k with
 |cons d k=>cases k with
  |cons c k=>cases k with
   |cons b k=>cases k;obtain⟨m,rfl,q⟩:=pF d;cases q with|cons e q=>cases q;exact⟨_,by rw[d9 c,S1 b],NF t _ _ _ _ _ a e h⟩
def vN.keeps{t:List bQ}{w w':aH}(h:vN t w v)(a:bm w w'):vN t w' v:=by obtain⟨ba,b,cL,x,rfl,d,c⟩:=h;exact⟨ba,b,cL,x,U,a _ _ _ d,c.mono q_ a⟩
def JP{Y:ubh}{w w':aH}(a:cC w w'):iS Y w w':=.pS (.below a)
def TE(t:List bQ)(w:aH)(v:Value):Prop:=∃a_,v=.agg #[a_]/\o5 w a_ t
def asn(t:List bQ):my n0 (TE t):=by rintro ρ w w' v v' a hv ⟨a_,rfl,h⟩;obtain⟨m,rfl,q⟩:=pF hv;cases q with|cons b q=>cases q;exact⟨_,U,NF t _ _ _ _ _ a b h⟩
def NG(n0:Nat)(t:List bQ)(w:aH)(v:Value):Prop:=∃b a_,v=.P b 0/\n0<=b/\ag w b #[a_] 41/\o5 w a_ t
def xy(t:List bQ):my n0 (NG n0 t):=by
 rintro ρ w w' v v' a hv ⟨b,a_,rfl,hn,e,h⟩;obtain⟨d,rfl,r⟩:=wH hv;obtain⟨f,c,j⟩:=a.types _ _ _ _ _ r e;obtain⟨x,i,g⟩:=a.cells ⟨b,0,none⟩ ⟨d,0,none⟩ a_ ⟨r,U,U⟩ ((ag.rules e).1 0 |>.trans U);have c:ag w' d f _:=c;have:f=#[x]:=by grind[ag.rules]
 subst this;exact⟨d,x,U,a.new _ _ r hn,c,NF t _ _ _ _ _ a g h⟩
def D4(t:List bQ)(w:aH)(u:Value):Prop:=∃a_,u=.tuple #[.agg #[a_],.T]/\o5 w a_ t
def xu(t:List bQ):my n0 (D4 t):=by
 rintro ρ w w' v v' a hv ⟨a_,rfl,h⟩;obtain⟨e,rfl,k⟩:=x8 hv;cases k with
 |cons c k=>cases k with
  |cons b k=>cases k;obtain⟨m,rfl,q⟩:=pF c;cases q with|cons d q=>cases q;exact⟨_,by rw[Q1 b],NF t _ _ _ _ _ a d h⟩
def jL(n0:Nat)(T:uaa)(N:Nat):bg:=⟨NB n0 T N,λ_ _ _ hb⟨b,cs,e,h1,h2,h3⟩=>⟨b,cs,e,h1,h2.call hb,h3⟩,λn=>n=n0,λn h=>h▸ash T N⟩
def JQ(n0:Nat)(t:List bQ):bg:=⟨NG n0 t,λ_ _ _ hb⟨b,a_,e,h1,h2,h3⟩=>⟨b,a_,e,h1,h2.call hb,h3.kept (JP hb)⟩,λn=>n=n0,λn h=>h▸xy t⟩
def AL(t:List bQ):bg:=⟨TE t,λ_ _ _ hb⟨a_,e,h⟩=>⟨a_,e,h.kept (JP hb)⟩,λ_=>True,λ_ _=>asn t⟩
def zj(t:List bQ):bg:=⟨vN t,λ_ _ _ hb h=>h.keeps (bm.b4 hb),λ_=>True,λ_ _=>asi t⟩
def GB:bg:=⟨ua,λ_ _ _ hb h=>h.keeps (bm.b4 hb),λ_=>True,λ_ _=>asj⟩
def JR(N:Nat)(l:uah):bg:=⟨TD N l,λ_ _ _ hb⟨g,c,v,e,h1,h2⟩=>⟨g,c,v,e,bm.b4 hb _ _ _ h1,h2.mono oH (bm.b4 hb)⟩,λ_=>True,λ_ _=>asl N l⟩
def D5(t:List bQ):bg:=⟨zi t,λ_ _ _ hb⟨a_,e,h⟩=>⟨a_,e,h.kept (JP hb)⟩,λ_=>True,λ_ _=>asm t⟩
def JS(t:List bQ):bg:=⟨D4 t,λ_ _ _ hb⟨a_,e,h⟩=>⟨a_,e,h.kept (JP hb)⟩,λ_=>True,λ_ _=>xu t⟩
def JT(rs:List dg):bg:=⟨Gf rs,λ_ _ _ hb⟨a_,e,h⟩=>⟨a_,e,h.mono ya (bm.b4 hb)⟩,λ_=>True,λ_ _=>OL rs⟩
def GC:bg:=⟨re rq,tG.eq _,λ_=>True,λ_ _ _ _ _ _ _ _ hv h=>by cases h;exact S1 hv⟩
def kT.kept{T:uaa}{w w':aH}(h:kT T w w')(f:¬sK T):iS sK w w':=⟨h.1,λb c e z a d=>by
 obtain⟨j,i,-,g⟩:=h.2 b c e z a;grind⟩
theorem kT.box{T T':uaa}{w w':aH}(h:kT T w w'){b:Nat}{cs:dC}(c:ag w b cs T'):∃a,ag w' b a T'/\a.size=cs.size/\(T'≠T->a=cs):=h.2 b cs T' _ c
theorem kT.set{T:uaa}{w:aH}{b:Nat}{cs:dC}(d:ag w b cs T)(o:Nat)(v:Value):kT T w (w.setCell ⟨b,o,none⟩ v):=⟨BB,λf c e z a=>by
 by_cases h:f=b
 .subst h;rw[show w.heap[f]?=some (.cells cs T)from d]at a;cases a;exact⟨_,d.set o v,Ab,λh=>absurd U h⟩
 .exact⟨c,(vav _ _ _ _ h).trans a,U,λ_=>U⟩⟩
theorem kT.trans{T:uaa}{w w' w'':aH}(h:kT T w w')(k:kT T w' w''):kT T w w'':=⟨vac h.1 k.1,λb c e z i=>by
 obtain⟨n,m,l,j⟩:=h.2 b c e z i;obtain⟨a,g,f,d⟩:=k.2 b n e z m;exact⟨a,g,f.trans l,λq=>(d q).trans (j q)⟩⟩
abbrev vO(T:uaa):Prop:=T=41\/T=47
def NH{T:uaa}(h:vO T):¬sK T:=by rcases h with rfl|rfl<;>simp[sK]
section
variable{T T':uaa}{N:Nat}
def GD:mC T (jL n0 T' N):=λw w' v h⟨b,cs,e,g,f,d⟩=>by obtain⟨i,c,a,-⟩:=h.box f;exact⟨b,i,e,g,c,a.trans d⟩
def xo{t:List bQ}(d:T=47):mC T (JQ n0 t):=λw w' v h⟨b,a_,e,i,g,f⟩=>by obtain⟨k,a,j,c⟩:=h.box g;rw[c AN]at a;exact⟨b,a_,e,i,a,f.kept (h.kept (NH (.inr d)))⟩
def asp(i:T=41):mC T (Ge n0):=λw w' v h⟨b,e,f,d⟩=>by obtain⟨j,a,g,c⟩:=h.box d;rw[c AN]at a;exact⟨b,e,f,a⟩
def asq{t:List bQ}(a:vO T):mC T (AL t):=λw w' v h⟨a_,e,b⟩=>⟨a_,e,b.kept (h.kept (NH a))⟩
def asr{t:List bQ}(a:vO T):mC T (D5 t):=λw w' v h⟨a_,e,b⟩=>⟨a_,e,b.kept (h.kept (NH a))⟩
def xn{o:Oper}{x y:uaq}{ev:uaj}{w:aH}{t:List bQ}(e:o.op=.store 41 x y)(g:NB n0 41 1 w (ev x))(f:TE t w (ev y)):∃w',(execOp ev o).run (aa prog true) w=.ok .skip w'/\kT 41 w w'/\Below n0 w w'/\NG n0 t w' (ev x):=by
 obtain⟨b,cs,h,hn,c,hs⟩:=g;obtain⟨a_,r,a⟩:=f;obtain⟨⟨j,i,rfl,-,-⟩,-⟩:=id a;obtain⟨q,rfl⟩:∃q,cs=#[q]:=by obtain⟨l⟩:=cs;match l,hs with| [q],_=>grind
 have d:=kT.set c 0 (.slice j t.length i);refine⟨_,?_,d,(vaa n0 w).setCell (p:=⟨b,0,none⟩) hn _,b,_,h,hn,c.set 0 _,a.kept (d.kept (NH Ij))⟩;obtain⟨n,k,m⟩:=c.all;clear a d c;cases o;simp only at e;subst e;go_simp
def TF{o:Oper}{x y:uaq}{ev:uaj}{w:aH}(d:o.op=.store 47 x y)(f:NB n0 47 2 w (ev x))(e:ev y=rq):∃w',(execOp ev o).run (aa prog true) w=.ok .skip w'/\kT 47 w w'/\Below n0 w w'/\S0 n0 w' (ev x):=by
 obtain⟨b,cs,g,hn,a,hs⟩:=f;obtain⟨q,r,rfl⟩:∃q r,cs=#[q,r]:=by obtain⟨l⟩:=cs;match l,hs with| [q,r],_=>grind
 have c:=a.set 0 (.I 0);refine⟨_,?_,(kT.set a 0 (.I 0)).trans (kT.set c 1 (.N)),((vaa n0 w).setCell (p:=⟨b,0,none⟩) hn _).setCell (p:=⟨b,1,none⟩) hn _,b,g,hn,c.set 1 _⟩;obtain⟨j,h,i⟩:=a.all;clear c a;unfold rq at e;cases o;simp only at d;subst d;go_simp
end
end
section
open iD
variable{O:gp}
@[simp] theorem LJ:cS true 9:=cN (bo (upd:=true) func9 AT) AT
@[simp] theorem LR:cS true 10:=cN (bo (upd:=true) func10 AT) AT
theorem asL(W ab:Nat)(i:0<W)(h:W<=16)(g:0<ab)(f:ab<=64)(w:aH):Calls (aa prog true) 9 #[.agg #[.I W,.I ab]] w λe w'=>e=.returned (.T)/\cC w w':=by
 have d:(1:Int)<=(W:Int):=AY;have c:(W:Int)<=16:=AY;have b:(1:Int)<=(ab:Int):=AY;have a:(ab:Int)<=64:=AY;go_enter (bo (upd:=true) func9 AT),ntmps9
 go_wp2
 go_ret
 exact⟨U,(vaa _ _).alloc IB _⟩
@[simp] theorem asM:cS true 13:=cN (bo (upd:=true) func13 AT) AT
@[simp] theorem asN:cS true 12:=cN (bo (upd:=true) func12 AT) AT
theorem asO:cS true 21:=cN (bo (upd:=true) Tryz.func21 AT) AT
def asP(a:dC)(w:aH):Sem.run (aa prog true) (callFunc 20 a) w=.ok (.enter 20 a) w:=cN (bo (upd:=true) Tryz.func20 AT) AT a w
def asQ(a:uad)(c cc:Nat)(w:aH):Calls (aa prog true) 13 #[.slice a c cc] w λe w'=>∃b,e=.returned (.func (.func 21) #[] #[.P b 0])/\w'.cell? (.a b 0)=some (.slice a c cc)/\cC w w':=by
 go_enter (bo (upd:=true) func13 AT),ntmps13
 go_wp2
 go_ret
 exact⟨_,U,rP (vbm w _) U U,(vaa _ w).alloc IB _⟩
def asR(g:Nat)(lb:dC)(w:aH):Calls (aa prog true) 12 #[.func (.func g) #[] lb,.I 0,.I 9223372036854775807] w λe w'=>∃b1 b a,e=.returned (.func (.func 20) #[] #[.P b1 0,.P b 0,.P a 0])/\w'.cell? (.a b1 0)=some (.func (.func g) #[] lb)/\w'.cell? (.a b 0)=some (.I 0)/\w'.cell? (.a a 0)=some (.I 9223372036854775807)/\cC w w':=by
 go_enter (bo (upd:=true) func12 AT),ntmps12
 go_wp2
 go_ret
 refine⟨_,_,_,U,Gd (Gd (rP (vbm w _) U U) _) _,?_,?_,(((vaa _ w).alloc IB _).alloc Ab _).alloc BC _⟩
 .grind[Gd,World.alloc_heap_new,World.size_alloc,rP]
 grind[World.alloc_heap_new,World.size_alloc,rP]
def AO(N:Nat)(l:uah):bg:=⟨λw u=>∃x,u=.tuple #[x,.I 0,.I 0]/\TD N l w x,λ_ _ _ hb⟨x,e,h⟩=>⟨x,e,(JR N l).fZ _ _ _ hb h⟩,λ_=>False,λ_ h=>h.elim⟩
def asS(l:uah):bg:=⟨λw v=>gR w v l,λ_ _ _ hb h=>h.mono oH (bm.b4 hb),λ_=>False,λ_ h=>h.elim⟩
def TP(rs:List dg):bg:=⟨λw v=>jl w v rs,λ_ _ _ hb h=>h.mono ya (bm.b4 hb),λ_=>False,λ_ h=>h.elim⟩
def zB(rs:List dg)(w:aH)(v:Value):Prop:=∃b x,v=.func (.func 21) #[] #[.P b 0]/\w.cell? (.a b 0)=some x/\jl w x rs
def zp(rs:List dg):bg:=⟨zB rs,λ_ _ _ hb⟨b,x,e,h1,h2⟩=>⟨b,x,e,bm.b4 hb _ _ _ h1,h2.mono ya (bm.b4 hb)⟩,λ_=>False,λ_ h=>h.elim⟩
def asT(rs:List dg):bg:=⟨λw v=>∃b1 b2 bH x,v=.func (.func 20) #[] #[.P b1 0,.P b2 0,.P bH 0]/\w.cell? (.a b1 0)=some x/\w.cell? (.a b2 0)=some (.I 0)/\w.cell? (.a bH 0)=some (.I 9223372036854775807)/\zB rs w x,λ_ _ _ hb⟨b1,b2,bH,x,e,h1,h2,h3,h⟩=>⟨b1,b2,bH,x,e,bm.b4 hb _ _ _ h1,bm.b4 hb _ _ _ h2,bm.b4 hb _ _ _ h3,(zp rs).fZ _ _ _ hb h⟩,λ_=>False,λ_ h=>h.elim⟩
section
variable{N:Nat}{K:bZ}{o o2:Oper}{F:bg}{x y:uaq}
def TQ(a:o.op=.alloc 47)(ev:uaj)(w:aH):(execOp ev o).run (aa prog true) w=.ok (.value (.P w.heap.size 0)) (w.alloc (.cells #[.I 0,.N] 47)):=by cases o;simp only at a;subst a;go_simp
def asU(a:o.op=.alloc 41)(ev:uaj)(w:aH):(execOp ev o).run (aa prog true) w=.ok (.value (.P w.heap.size 0)) (w.alloc (.cells #[.N] 41)):=by cases o;simp only at a;subst a;go_simp
def TR{B:Nat}(b:o.op=.alloc 41)(a:Act)(w:aH)(c:B<=w.heap.size):Fp (aa prog true) o (jL B 41 1) a w:=.inl ⟨_,_,asU b _ _,⟨_,_,U,c,ag.new _ _ _,U⟩,(vaa _ w).alloc (vad _) _⟩
def TS{B:Nat}(b:o.op=.alloc 47)(a:Act)(w:aH)(c:B<=w.heap.size):Fp (aa prog true) o (jL B 47 2) a w:=.inl ⟨_,_,TQ b _ _,⟨_,_,U,c,ag.new _ _ _,U⟩,(vaa _ w).alloc (vad _) _⟩
def TT{s B:Nat}(b:o.op=.alloc 41)(hs:K s=some (vr B F)):bK (aa prog true) N K o (jL B 41 1):=λa w hk=>by obtain⟨v,-,c,-⟩:=hk.has s _ hs;exact TR b a w c
def zn{s B:Nat}(b:o.op=.alloc 47)(hs:K s=some (vr B F)):bK (aa prog true) N K o (jL B 47 2):=λa w hk=>by obtain⟨v,-,c,-⟩:=hk.has s _ hs;exact TS b a w c
def asV{m n:Int}(a:o.op=.build 52 #[(0,x),(1,y)])(e:bq K x (a3 m))(d:bq K y (a3 n)):bK (aa prog true) N K o (kx m n):=wV e d λev w c b=>by have c:ev x=.I m:=c;have b:ev y=.I n:=b;refine⟨.agg #[.I m,.I n],w,?_,U,vaa _ _⟩;cases o;simp only at a;subst a;go_simp
def asW{ops:eQ}{i d s:Nat}{Q:uap}{rest:uag}{a:Act}{w:aH}{m n:Int}(j:ops[i]?=some o)(h:ops[i+1]?=some o2)(c:o.op=.alloc 52)(b:o2.op=.store 52 (.tmp d) (.tmp s))(g:K s=some (kx m n))(hk:af N K a w)(hd:o.dst=some d)(f:o2.dst=none)(g1:o.guard=none)(p:o2.guard=none)(a5:d<N)(t:d≠s)(k:∀a' w1,af N (up K d (gh wW (m,n))) a' w1->a'.defers=a.defers->cC w w1->wpOps (aa prog true) ops Q rest a' w1):wpOps (aa prog true) ops Q (i::(i+1)::rest) a w:=by
 obtain⟨v,q,rfl⟩:=hk.has s _ g;have e:cC w (w.alloc (.cells #[.I m,.I n] 52)):=(vaa _ w).alloc IB _;have bI:=ag.new w #[.I m,.I n] 52;refine SI (F:=gh wW (m,n)) (F9:=w.alloc (.cells #[.I 0,.I 0] 52)) j h g1 p hd f a5 t hk q (λev=>?_) (λev x u=>?_) e ⟨w.heap.size,0,U,bI.rules.1 _,bI.rules.1 _⟩ λa' r l=>k a' _ r l e
 .cases o;simp only at c;subst c;go_simp
 .cases o2;simp only at b;subst b;go_simp
def asX{n:Nat}{l:uah}(a:o.op=.extract x 0)(b:bq K x (AO n l)):bK (aa prog true) N K o (JR n l):=dy b λev w h=>by obtain⟨v,e,h⟩:=h;refine⟨v,w,?_,h,vaa _ _⟩;clear h;cases o;simp only at a;subst a;go_simp
def zm{n k:Nat}{l:uah}(a:o.op=.extract x k)(b:bq K x (AO n l))(hk:k=1\/k=2):bK (aa prog true) N K o (a3 0):=dy b λev w h=>by obtain⟨v,e,h⟩:=h;refine⟨.I 0,w,?_,U,vaa _ _⟩;clear h;cases o;simp only at a;subst a;rcases hk with rfl|rfl<;>go_simp
def asY{rs:List dg}(a:o.op=.extract x 0)(b:bq K x (JT rs)):bK (aa prog true) N K o (TP rs):=dy b λev w h=>by obtain⟨v,e,h⟩:=h;refine⟨v,w,?_,h,vaa _ _⟩;clear h;cases o;simp only at a;subst a;go_simp
def asZ{rs:List dg}(a:o.op=.extract x 1)(b:bq K x (JT rs)):bK (aa prog true) N K o (a3 0):=dy b λev w h=>by obtain⟨v,e,h⟩:=h;refine⟨.I 0,w,?_,U,vaa _ _⟩;clear h;cases o;simp only at a;subst a;go_simp
def as0{rs:List dg}(a:o.op=.extract x 2)(b:bq K x (JT rs)):bK (aa prog true) N K o GC:=dy b λev w h=>by obtain⟨v,e,h⟩:=h;refine⟨rq,w,?_,U,vaa _ _⟩;clear h;cases o;simp only at a;subst a;go_simp
def zg{m:Int}{T':uaa}(a:o.op=.binOp .neq 45 x y T')(c:bq K x (a3 m))(b:bq K y (a3 m)):bK (aa prog true) N K o (gB false):=y5 c b (λ_=>U) λev w e d=>by cases o;simp only at a;subst a;go_simp
def zb(l:uah):bg:=⟨λw v=>∃g k x,v=.P g k/\w.cell? (.a g k)=some x/\gR w x l,λ_ _ _ hb⟨g,k,x,e,h1,h2⟩=>⟨g,k,x,e,bm.b4 hb _ _ _ h1,h2.mono oH (bm.b4 hb)⟩,λ_=>False,λ_ h=>h.elim⟩
def as1{n:Nat}{l:uah}(a:o.op=.indexAddr 54 x y)(f:bq K x (JR n l))(e:bq K y (a3 ((n-1:Nat):Int)))(hn:0<n):bK (aa prog true) N K o (zb l):=wV f e λev w h d=>by obtain⟨g,c,v,k,i,b⟩:=h;have d:ev y=.I ((n-1:Nat):Int):=d;have j:((n-1:Nat):Int)<(n:Int):=AY;refine⟨.P g (n-1),w,?_,⟨g,n-1,v,U,i,b⟩,vaa _ _⟩;clear b;cases o;simp only at a;subst a;go_simp
def as2{l:uah}(a:o.op=.load 69 x)(c:bq K x (zb l)):bK (aa prog true) N K o (asS l):=dy c λev w h=>by obtain⟨g,k,v,e,d,b⟩:=h;refine⟨v,w,?_,b,vaa _ _⟩;clear b;cases o;simp only at a;subst a;go_simp
def as3(a:o.op=.build 47 #[]):bK (aa prog true) N K o GC:=OI a
def as4{n:Nat}{l:uah}{T:uaa}(a:o.op=.call {callee:=.builtin .len,args:=#[x],argTypes:=#[T]})(b:bq K x (JR n l))(d:T=54):bK (aa prog true) N K o (a3 n):=dy b λev w h=>by obtain⟨g,c,v,e,-,-⟩:=h;subst d;refine⟨.I n,w,?_,U,vaa _ _⟩;cases o;simp only at a;subst a;go_simp
end
end
variable{aZ br:Value}
section
open iD
variable{O:gp}
def y1{F:Func}{ops:eQ}{n0 N i xa sa xi AP sb:Nat}{y:uaq}{K:bZ}{a:Act}{w:aH}{ks:uab}{f:List bQ}(hk:af N K a w)(hd:a.defers=[])(e:K xa=some (jL n0 41 1)/\K sa=some (AL f)/\K AP=some (jL n0 47 2)/\K sb=some GC)(j:bq K y (a3 0))(U:∃c o2 b,(ops[i]?=some c/\c.op=.store 41 (.tmp xa) (.tmp sa)/\c.guard=none/\c.dst=none)/\(ops[i+1]?=some o2/\o2.op=.assign y/\o2.guard=none/\o2.dst=some xi)/\ops[i+2]?=some b/\b.op=.store 47 (.tmp AP) (.tmp sb)/\b.guard=none/\b.dst=none)(g:xi<N/\xi≠xa/\xi≠AP/\xi≠sb)(A:∀(tmps:dC)(w:aH) h d a_,tmps[xa]?=some (.P h 0)->tmps[xi]?=some (.I 0)->tmps[AP]?=some (.P d 0)->ag w h #[a_] 41->ag w d #[.I 0,.N] 47->(results F tmps).run (aa prog true) w=.ok (.tuple #[.agg #[a_],.I 0,rq]) w):
 pD (aa prog true) F (.R ops (List.range' i 3):: .code .ret::ks) (λv w1=>zi f w1 v/\Below n0 w w1) a w:=by
 obtain⟨c,o2,b,⟨I,H,E,D⟩,⟨T,S,C,B⟩,r1,z,x,p⟩:=U;obtain⟨o,a1,P⟩:=hk.has xa _ e.1;obtain⟨vs,b1,Q⟩:=hk.has sa _ e.2.1;obtain⟨m,c1,cg⟩:=hk.has AP _ e.2.2.1;obtain⟨l,d1,M⟩:=hk.has sb _ e.2.2.2;have j:a.eval y=.I 0:=hk.ev j;obtain⟨w1,u,s,r,n⟩:=xn (n0:=n0) (t:=f) (ev:=a.eval) H (by rw[cd a1];exact P) (by rw[cd b1];exact Q);have f1:(a.put (some xi) (.I 0)).tmps[xa]?=some o:=(et g.2.1).trans a1;have k:(a.put (some xi) (.I 0)).tmps[AP]?=some m:=(et g.2.2.1).trans c1;have f3:(a.put (some xi) (.I 0)).tmps[sb]?=some l:=(et g.2.2.2).trans d1;obtain⟨w2,u1,u2,u3,u4⟩:=TF (n0:=n0) (w:=w1) (ev:=(a.put (some xi) (.I 0)).eval) z (by rw[cd k];exact GD w w1 m s cg) (by rw[cd f3];exact M);rw[cd a1]at n;rw[cd k]at u4;have q:=xo (n0:=n0) (t:=f) rfl w1 w2 o u2 n;obtain⟨h,a_,rfl,-,O,L⟩:=q;obtain⟨d,rfl,-,J⟩:=u4;refine uI (ks':=.code .ret::ks) (wI (fP (R:=λa' w'=>a=a'/\w1=w') (sr I E D u ⟨rfl,rfl⟩) ?_));rintro _ _ ⟨rfl,rfl⟩;refine fP (R:=λa' w'=>a'=a.put (some xi) (.I 0)/\w1=w') (ip T C B (y_ S j _) ⟨rfl,rfl⟩) ?_;rintro _ _ ⟨rfl,rfl⟩;refine fP (R:=λa' w'=>a'=a.put (some xi) (.I 0)/\w2=w') (sr r1 x p u1 ⟨rfl,rfl⟩) ?_;rintro _ _ ⟨rfl,rfl⟩;exact nX (i9 (B4 ((put_defers _ _ _).trans hd) (A _ w2 h d a_ f1 (ja (by rw[hk.size];exact g.1)) k O J) ⟨⟨a_,rfl,L⟩,r.trans (u3)⟩))
def zl(F:Func):Code:=.seq (.seq (.region 8 (aP F 8) false) (.cond (.tmp 60) (.seq (.region 9 (aP F 9) true) .ret) .skip)) (.seq (.region 10 (aP F 10) false) (.seq (.region 11 (aP F 11) false) .ret))
def TU(F:Func):Code:=.seq (.region 0 (aP F 0) false) (.seq (.region 1 (aP F 1) false) (.seq (.seq (.region 2 (aP F 2) false) (.cond (.tmp 35) (.seq (.region 3 (aP F 3) false) .ret) .skip)) (.seq (.region 4 (aP F 4) false) (.seq (.seq (.region 5 (aP F 5) false) (.cond (.tmp 46) (.seq (.region 6 (aP F 6) false) .ret) .skip)) (.seq (.region 7 (aP F 7) false) (zl F))))))
theorem yY:Tryz.f8.body=some (TU Tryz.f8):=by kernel_rfl
def NI:fG prog true Tryz.f8=true:=by decide+kernel
def as6:∃o ats,(aP Tryz.f8 7)[3]?=some o/\o.op=.call {callee:=.value (.func 11),args:=#[.tmp 52,.tmp 53,.tmp 54],argTypes:=ats}/\o.guard=none/\o.dst=some 55:=⟨_,_,U,U,U,U⟩
def as7:∃b o2 a,((aP Tryz.f8 11)[9]?=some b/\b.op=.store 41 (.tmp 12) (.tmp 76)/\b.guard=none/\b.dst=none)/\((aP Tryz.f8 11)[9+1]?=some o2/\o2.op=.assign (.const (.I 0))/\o2.guard=none/\o2.dst=some 13)/\(aP Tryz.f8 11)[9+2]?=some a/\a.op=.store 47 (.tmp 14) (.tmp 77)/\a.guard=none/\a.dst=none:=⟨_,_,_,⟨U,U,U,U⟩,⟨U,U,U,U⟩,U,U,U,U⟩
section
variable{fu fv:bg}{n0 nG:Nat}{l:uah}{W ab:Nat}{rs:List dg}{a:Act}{w:aH}
abbrev JV(fu fv:bg)(n0 nG:Nat)(l:uah)(W ab:Nat):List (Nat×bg):=[(4,a3 0),(5,a3 9223372036854775807),(12,jL n0 41 1),(14,jL n0 47 2),(16,JR nG l),(52,fu),(53,fv),(54,kx W ab)]
def as8(T:∀w aZ br,fu.R w aZ->fv.R w br->Calls (aa prog true) 10 #[aZ,br] w λe w'=>∃v,e=.returned v/\(AO nG l).R w' v/\cC w w')(I:0<W)(H:W<=16)(E:0<ab)(D:ab<=64)(hd:a.defers=[])(hn:n0<=w.heap.size)(hk:af 78 (be [(0,fu),(1,fv),(2,a3 W),(3,a3 ab),(4,a3 0),(5,a3 9223372036854775807),(77,mX)]) a w):
 cb (aa prog true) [.code (TU Tryz.f8)] (.R (aP Tryz.f8 7) (3::List.range' 4 8)::[.code (zl Tryz.f8)]) (λa1 w1=>a1.defers=[]/\af 78 (be (JV fu fv n0 nG l W ab)) a1 w1/\Below n0 w w1) a w:=by
 obtain⟨u,b,B⟩:=hk.has 77 _ rfl;have hk:=bX (F:=vr n0 mX) b ⟨hn,B⟩ hk;unfold TU;refine cG ?_;rw[ey (aP Tryz.f8 0)];refine f5 hk (aC rfl (TT (s:=77) rfl rfl)<|aC rfl (eD (F:=a3 0) rfl IX)<|aC rfl (zn (s:=77) rfl rfl)<|rfl) λa1 w1 A d1 b1=>cG ?_;rw[ey (aP Tryz.f8 1)];refine Jl (m:=3) A (aC rfl IW<|aC rfl IW<|aC rfl (asV rfl rfl rfl)<|rfl) AX λbA w2 z Q S=>asW rfl rfl rfl rfl rfl z rfl rfl rfl rfl AX AX λbR V y P R=>nX (cG (cG ?_));rw[ey (aP Tryz.f8 2)];refine f5 y (aC rfl (Jo rfl rfl)<|aC rfl (M3 (F:=gB true) rfl LJ rfl λv w h=>by cases h;exact(asL W ab I H E D w).mono λe w'⟨q,C⟩=>⟨_,q,rfl,C⟩)<|aC rfl (Lw rfl rfl)<|aC rfl IW<|gC rfl IW<|gC rfl (M1 (n:=0) rfl rfl IX AX AX)<|aC rfl (b3 (c:=false) rfl rfl rfl)<|aC rfl IW<|gC rfl IW<|gC rfl (M1 (n:=0) rfl rfl IX AX AX)<|aC rfl (b3 (c:=false) rfl rfl rfl)<|rfl) λcu U f O cH=>lz (t:=false) (rr f rfl rfl) (x7 (cG ?_));rw[ey (aP Tryz.f8 4)];refine f5 f (aC rfl IW<|aC rfl IW<|aC rfl (SH (F:=AO nG l) rfl LR rfl rfl λv u w r1 r=>T w v u r1 r)<|aC rfl IW<|aC rfl (asX rfl rfl)<|aC rfl (zm rfl rfl AX)<|aC rfl (zm rfl rfl AX)<|aC rfl In<|aC rfl In<|aC rfl In<|rfl) λfQ gg J N cr=>cG (cG ?_);rw[ey (aP Tryz.f8 5)];refine f5 J (aC rfl IW<|aC rfl (zg rfl rfl IX)<|rfl) λZ h5 g M K=>lz (t:=false) (rr g rfl rfl) (x7 (cG (ra ?_)));rw[ey (aP Tryz.f8 7)];refine(show cb _ (.R _ (List.range' 0 (3+9))::_) _ _ _ _ from k_ g (aC rfl IW<|aC rfl IW<|aC rfl (Jo rfl rfl)<|rfl) AX λY X x L p=>i9 ⟨L.trans (M.trans (N.trans (O.trans (P.trans (Q.trans (d1.trans hd)))))),x.a7 ⟨rfl,rfl,rfl,rfl,rfl,rfl,rfl,rfl,PA⟩,?_⟩);have o:=b1.trans (S.mono b1.size);have k:=o.trans (R.mono o.size);have j:=k.trans (cH.mono k.size);have i:=j.trans (cr.mono j.size);have d:=i.trans (K.mono i.size);exact(d.trans (p.mono d.size)).mono hn
def as_(Gl:0<nG/\nG<=1000)(hl:l.length<=1000)(Ju:rs.length<=1000)(hlen:∀r∈rs,r.2.length=l.length)(GG:∀r∈rs,∀d∈r.2,d.text.size<=1000000)(hd:a.defers=[])(hn:n0<=w.heap.size)(hk:af 78 (up (be (JV fu fv n0 nG l W ab)) 55 (JT rs)) a w):
 pD (aa prog true) Tryz.f8 (.R (aP Tryz.f8 7) (List.range' 4 8)::[.code (zl Tryz.f8)]) (λv w1=>zi (sJ l (o7 rs) rs.length) w1 v/\Below n0 w w1) a w:=by
 have key:cb (aa prog true) (.R (aP Tryz.f8 7) (List.range' 4 8)::[.code (zl Tryz.f8)]) [.R (aP Tryz.f8 11) (List.range' 9 3),.code .ret] (λa1 w1=>a1.defers=[]/\af 78 (be [(12,jL n0 41 1),(14,jL n0 47 2),(76,AL (sJ l (o7 rs) rs.length)),(77,GC)]) a1 w1/\Below n0 w w1) a w:=by
  rw[ey (aP Tryz.f8 7)];refine(show cb _ (.R _ (List.range' 4 (4+4))::_) _ _ _ _ from k_ hk (aC rfl IW<|aC rfl (asY rfl rfl)<|aC rfl (asZ rfl rfl)<|aC rfl (as0 rfl rfl)<|rfl) AX λa1 w1 m d1 b1=>wI ?_);obtain⟨v56,TV,J⟩:=m.has 56 _ rfl;obtain⟨v57,TW,I⟩:=m.has 57 _ rfl;obtain⟨v58,TX,H⟩:=m.has 58 _ rfl;obtain⟨o,S,nK,JO,TY⟩:∃o,(aP Tryz.f8 7)[11]?=some o/\o.op=.store 47 (.tmp 20) (.tmp 58)/\o.guard=none/\o.dst=none:=⟨_,rfl,rfl,rfl,rfl⟩;rw[ey (aP Tryz.f8 7)]at S;refine fP (R:=λa' w'=>a'=a1.put (some 20) (.P w1.heap.size 0)/\w'=w1.alloc (.cells #[.I 0,.N] 47)) (ip rfl rfl rfl (TQ rfl _ _) ⟨rfl,rfl⟩) ?_;rintro bA w2 ⟨rfl,z⟩;refine fP (R:=λa' w'=>a'=(a1.put (some 20) (.P w1.heap.size 0)).put (some 19) v56/\w2=w') (ip (v:=v56) rfl rfl rfl (y_ rfl (cd ((et AX).trans TV)) _) ⟨rfl,rfl⟩) ?_;rintro _ _ ⟨rfl,rfl⟩;refine fP (R:=λa' w'=>a'=((a1.put (some 20) (.P w1.heap.size 0)).put (some 19) v56).put (some 17) v57/\w2=w') (ip (v:=v57) rfl rfl rfl (y_ rfl (cd ((et AX).trans ((et AX).trans TW))) _) ⟨rfl,rfl⟩) ?_;rintro p _ ⟨q,rfl⟩;have NM:p.tmps[20]?=some (.P w1.heap.size 0):=by rw[q];exact(et AX).trans ((et AX).trans (ja (by rw[m.size];decide)))
  have E:p.tmps[58]?=some v58:=by rw[q];exact(et AX).trans ((et AX).trans ((et AX).trans TX))
  obtain⟨N,eM,-,eX,-⟩:=TF (n0:=w1.heap.size) (ev:=p.eval) (w:=w2) nK (by rw[cd NM,z];exact⟨_,_,rfl,vad _,ag.new _ _ _,rfl⟩) (by rw[cd E];exact H);have k:cC w1 N:=((vaa _ w1).alloc IB _).trans (z▸eX);refine fP (R:=λa' w'=>p=a'/\N=w') (sr S JO TY eM ⟨rfl,rfl⟩) ?_;rintro _ _ ⟨rfl,rfl⟩;have P:=((m.put (s:=20) (F:=MY) (v:=.P w1.heap.size 0) AX k trivial).put (s:=19) (F:=TP rs) AX (vaa _ _) ((TP rs).fZ _ _ _ k J)).put (s:=17) (F:=a3 0) AX (vaa _ _) I;rw[<-q]at P;have d4:p.defers=a.defers:=by rw[q,put_defers,put_defers,put_defers];exact d1
  refine nX ?_;unfold zl;refine cG (cG ?_);rw[ey (aP Tryz.f8 8)];refine f5 P (aC rfl IW<|aC rfl (zg rfl rfl IX)<|rfl) λfQ gg T d5 cr=>lz (t:=false) (rr T rfl rfl) (x7 (cG ?_));rw[ey (aP Tryz.f8 10)];refine f5 T (aC rfl IW<|aC rfl (M3 (F:=zp rs) rfl asM rfl λv w r1=>by
   obtain⟨ek,cc,rfl,-,-⟩:=id r1;exact(asQ _ _ _ w).mono λe w'⟨b,g,c,j⟩=>⟨_,g,⟨b,_,rfl,c,bw.mono ya (bm.b4 j) r1⟩,j⟩)<|aC rfl IW<|aC rfl IW<|aC rfl (SG (F:=asT rs) rfl asN λa w hk=>by
   obtain⟨v,L,b,x,rfl,r1,A⟩:=hk.has 65 _ rfl;obtain⟨v2,K,rfl⟩:=hk.has 66 _ rfl;obtain⟨v3,B,rfl⟩:=hk.has 67 _ rfl;rw[show(#[Operand.tmp 65,.tmp 66,.tmp 67].map a.eval)=#[.func (.func 21) #[] #[.P b 0],.I 0,.I 9223372036854775807]from by simp[cd L,cd K,cd B]];exact(asR _ _ w).mono λe w'⟨b1,D,k,g,c,j,C,M⟩=>⟨_,g,⟨b1,D,k,_,rfl,c,j,C,b,x,rfl,bm.b4 M _ _ _ r1,bw.mono ya (bm.b4 M) A⟩,M⟩)<|aC rfl In<|rfl) λiR h5 jI d6 ft=>cG (ra ?_)
  rw[ey (aP Tryz.f8 11)];have Jw:((nG:Int)-1)=((nG-1:Nat):Int):=AY;refine(show cb _ (.R _ (List.range' 0 (9+3))::_) _ _ _ _ from k_ jI (aC rfl IW<|aC rfl IW<|aC rfl (as4 rfl rfl rfl)<|aC rfl (Ji (n:=1) rfl rfl IX Bt AX)<|aC rfl (as1 rfl rfl (by rw[<-Jw];rfl) Gl.1)<|aC rfl (as2 rfl rfl)<|aC rfl IW<|aC rfl (SH (F:=AL (sJ l (o7 rs) rs.length)) rfl ass rfl rfl λv u w r1 A=>by
   obtain⟨b1,D,k,x,rfl,p1,p2,p3,b,y,rfl,p4,DO⟩:=A;exact(asw l v rs w r1 hl Ju hlen GG asP λn=>arM b1 D k w (λn=>arI rs y b w DO AY p4) asO
    (λt W x h=>by obtain⟨_,pa,pc,X,V,rfl,-,-⟩:=h;grind) (λt W W' x hk h=>by
     obtain⟨h0,pa,pc,X,V,rfl,g,c⟩:=h;exact⟨h0,pa,pc,X,V,rfl,g,λ_ _ _ hc=>D1 hk (c _ _ _ hc)⟩) AY p1 p2 p3).mono λe w'⟨a_,g,c,j⟩=>⟨_,g,⟨a_,rfl,c⟩,j⟩)<|aC rfl (as3 rfl)<|rfl) AX λmH vA nD d7 Y=>i9 ⟨d7.trans (d6.trans (d5.trans (d4.trans hd))),nD.a7 ⟨rfl,rfl,rfl,rfl,PA⟩,?_⟩)
  have U:=b1.trans (k.mono b1.size);have Q:=U.trans (cr.mono U.size);have O:=Q.trans (ft.mono Q.size);exact(O.trans (Y.mono O.size)).mono hn
 refine uI (ks':=[.R (aP Tryz.f8 11) (List.range' 9 3),.code .ret]) λb cs=>?_;obtain⟨a1,w1,⟨g,c,j⟩,C⟩:=key b cs;refine⟨a1,w1,λf cs hf=>?_,C⟩;obtain⟨v,w2,fr,⟨L,K⟩,B,Z⟩:=y1 (F:=Tryz.f8) (ks:=[]) (i:=9) (xa:=12) (sa:=76) (xi:=13) (AP:=14) (sb:=77) (y:=.const (.I 0)) c g ⟨rfl,rfl,rfl,rfl⟩ IX as7 AX (λtmps w GI um a_ e1 z e3 c9 dF=>by simp[results,results8,go_sem,rq,e1,z,e3,c9.rules.1,dF.rules.1]) f cs hf;exact⟨v,w2,fr,⟨L,j.trans K⟩,B,Z⟩
def yX{cp Fr:bg}(hg:cp.ok=λ_=>True)(t:Fr.ok=λ_=>True){Post:fE}{M:c5}{d:Nat}(m:∀n,fu.ok n)(k:∀n,fv.ok n)(D:aL (bU M) #[aZ,br] #[aZ,br])(s:fu.R w aZ)(r:fv.R w br)(C:0<W)(B:W<=16)(A:0<ab)(z:ab<=64)(H:∀w aZ br,fu.R w aZ->fv.R w br->Calls (aa prog true) 10 #[aZ,br] w λe w'=>∃v,e=.returned v/\(AO nG l).R w' v/\cC w w')(F:∀M w aZ br,aL (bU M) #[aZ,br,.agg #[.I W,.I ab]] #[aZ,br,.agg #[.I W,.I ab]]->fu.R w aZ->fv.R w br->eb O prog Post 11 #[aZ,br,.agg #[.I W,.I ab]] M w d (λu _ w'=>cp.R w' u/\cO M w w'))(q:∀(n0:Nat) a c,a.defers=[]->n0<=c.heap.size->af 78 (up (be (JV fu fv n0 nG l W ab)) 55 cp) a c->pD (aa prog true) Tryz.f8 (.R (aP Tryz.f8 7) (List.range' 4 8)::[.code (zl Tryz.f8)]) (λv w1=>Fr.R w1 v/\Below n0 c w1) a c):
 eb O prog Post 8 #[aZ,br,.I W,.I ab,.I 0,.I 9223372036854775807] M w d (λu _ w'=>Fr.R w' u/\cO M w w'):=by
 obtain⟨o,ats,y⟩:=as6;refine MO (N:=78) (l0:=[(0,fu),(1,fv),(2,a3 W),(3,a3 ab),(4,a3 0),(5,a3 9223372036854775807),(77,mX)]) (l1:=JV fu fv w.heap.size nG l W ab) (cp:=cp) (Fr:=Fr) l5 func8 NI yY ?_ ?_ ⟨m _,k _,PA,PA,PA,PA,PA,PA⟩ ⟨PA,PA,U,U,PA,m _,k _,PA,PA⟩ (by rw[hg];trivial) (by rw[t];trivial) AT (ks:=[.code (zl Tryz.f8)]) AT y AX func11 AU Gg (λa c hd hn hk=>as8 H C B A z hd hn hk) (λa E w1 Shun I hk h=>?_) (λa c hd hn hk=>q _ a c hd hn hk)
 .exact aL.append (a:=#[aZ,br]) (b:=#[.I W,.I ab,.I 0,.I 9223372036854775807]) D (kO (l:=[.I W,.I ab,.I 0,.I 9223372036854775807]) λx f=>by
   simp at f;rcases f with rfl|rfl|rfl|rfl<;>exact .int _ _)
 .exact bX (v:=aZ) I4 s<|bX (v:=br) I4 r<|bX (v:=.I W) I4 U<|bX (v:=.I ab) I4 U<|bX (v:=.I 0) I4 U<|bX (v:=.I 9223372036854775807) I4 U<|bX (v:=undef) (by simp[Tryz.f8]) U<|mF (by simp[Tryz.f8])
 .obtain⟨v52,j,r1⟩:=hk.has 52 _ U;obtain⟨v53,i,p⟩:=hk.has 53 _ U;obtain⟨v54,g,rfl⟩:=hk.has 54 _ U;rw[show(#[Operand.tmp 52,.tmp 53,.tmp 54].map a.eval)=#[v52,v53,.agg #[.I W,.I ab]]from by simp[cd j,cd i,cd g]];exact F E w1 v52 v53 (kO (l:=[v52,v53,.agg #[.I W,.I ab]]) λx f=>by
   simp only[vbc,vbr,vds]at f;rcases f with rfl|rfl|rfl
   .exact h.get _ _ _ j j
   .exact h.get _ _ _ i i
   .exact h.get _ _ _ g g) r1 p
def ate{Post:fE}{M:c5}{d:Nat}(c:∀n,fu.ok n)(b:∀n,fv.ok n)(o:aL (bU M) #[aZ,br] #[aZ,br])(g:fu.R w aZ)(f:fv.R w br)(m:0<W)(k:W<=16)(j:0<ab)(i:ab<=64)(s:0<nG/\nG<=1000)(h:l.length<=1000)(p:rs.length<=1000)(hlen:∀r∈rs,r.2.length=l.length)(t:∀r∈rs,∀d∈r.2,d.text.size<=1000000)(x:∀w aZ br,fu.R w aZ->fv.R w br->Calls (aa prog true) 10 #[aZ,br] w λe w'=>∃v,e=.returned v/\(AO nG l).R w' v/\cC w w')(q:∀M w aZ br,aL (bU M) #[aZ,br,.agg #[.I W,.I ab]] #[aZ,br,.agg #[.I W,.I ab]]->fu.R w aZ->fv.R w br->eb O prog Post 11 #[aZ,br,.agg #[.I W,.I ab]] M w d (λu _ w'=>Gf rs w' u/\cO M w w')):
 eb O prog Post 8 #[aZ,br,.I W,.I ab,.I 0,.I 9223372036854775807] M w d (λu _ w'=>zi (sJ l (o7 rs) rs.length) w' u/\cO M w w'):=
 yX (cp:=JT rs) (Fr:=D5 (sJ l (o7 rs) rs.length)) U U c b o g f m k j i x q λn0 a y hd hn hk=>as_ s h p hlen t hd hn hk
end
end
section
open iD
variable{O:gp}
section
variable{N:Nat}{K:bZ}{o:Oper}{x:uaq}{t:List bQ}
def yW(a:o.op=.extract x 0)(b:bq K x (D5 t)):bK (aa prog true) N K o (AL t):=dy b λev w h=>by obtain⟨v,e,h⟩:=h;refine⟨.agg #[v],w,?_,⟨v,U,h⟩,vaa _ _⟩;clear h;cases o;simp only at a;subst a;go_simp
def yV(a:o.op=.extract x 1)(b:bq K x (D5 t)):bK (aa prog true) N K o (a3 0):=dy b λev w h=>by obtain⟨v,e,h⟩:=h;refine⟨.I 0,w,?_,U,vaa _ _⟩;clear h;cases o;simp only at a;subst a;go_simp
def x6(a:o.op=.extract x 2)(b:bq K x (D5 t)):bK (aa prog true) N K o GC:=dy b λev w h=>by obtain⟨v,e,h⟩:=h;refine⟨rq,w,?_,U,vaa _ _⟩;clear h;cases o;simp only at a;subst a;go_simp
end
def x2(F:Func):Code:=.seq (.region 0 (aP F 0) false) (.seq (.region 1 (aP F 1) false) .ret)
theorem TZ:Tryz.f7.body=some (x2 Tryz.f7):=by kernel_rfl
def atf:∃o ats,(aP Tryz.f7 1)[4]?=some o/\o.op=.call {callee:=.value (.func 8),args:=#[.tmp 11,.tmp 12,.tmp 13,.tmp 14,.const (.I 0),.const (.I 9223372036854775807)],argTypes:=ats}/\o.guard=none/\o.dst=some 15:=⟨_,_,U,U,U,U⟩
def x1:∃b o2 a,((aP Tryz.f7 1)[8]?=some b/\b.op=.store 41 (.tmp 8) (.tmp 16)/\b.guard=none/\b.dst=none)/\((aP Tryz.f7 1)[8+1]?=some o2/\o2.op=.assign (.tmp 17)/\o2.guard=none/\o2.dst=some 9)/\(aP Tryz.f7 1)[8+2]?=some a/\a.op=.store 47 (.tmp 10) (.tmp 18)/\a.guard=none/\a.dst=none:=⟨_,_,_,⟨U,U,U,U⟩,⟨U,U,U,U⟩,U,U,U,U⟩
def x0{fu fv Fr:bg}(p:Fr.ok=λ_=>True){W ab d:Nat}{w:aH}{Post:fE}{M:c5}(k:∀n,fu.ok n)(j:∀n,fv.ok n)(I:aL (bU M) #[aZ,br] #[aZ,br])(D:fu.R w aZ)(C:fv.R w br)(P:∀M w aZ br,aL (bU M) #[aZ,br] #[aZ,br]->fu.R w aZ->fv.R w br->eb O prog Post 8 #[aZ,br,.I W,.I ab,.I 0,.I 9223372036854775807] M w d (λu _ w'=>Fr.R w' u/\cO M w w'))(z:∀(n0:Nat) a c,a.defers=[]->n0<=c.heap.size->af 19 (up (be [(8,jL n0 41 1),(10,jL n0 47 2),(11,fu),(12,fv),(13,a3 W),(14,a3 ab)]) 15 Fr) a c->pD (aa prog true) Tryz.f7 (.R (aP Tryz.f7 1) (List.range' 5 6)::[.code .ret]) (λv w1=>Fr.R w1 v/\Below n0 c w1) a c):
 eb O prog Post 7 #[aZ,br,.I W,.I ab] M w d (λu _ w'=>Fr.R w' u/\cO M w w'):=by
 obtain⟨o,ats,H⟩:=atf;refine MO (N:=19) (rest:=List.range' 5 6) (l0:=[(0,fu),(1,fv),(2,a3 W),(3,a3 ab),(18,mX)]) (l1:=[(8,jL w.heap.size 41 1),(10,jL w.heap.size 47 2),(11,fu),(12,fv),(13,a3 W),(14,a3 ab)]) (cp:=Fr) (Fr:=Fr) l5 func7 AT TZ ?_ ?_ ⟨k _,j _,PA,PA,PA,PA⟩ ⟨U,U,k _,j _,PA,PA,PA⟩ (by rw[p];trivial) (by rw[p];trivial) AT (ks:=[.code .ret]) AT H AX func8 AU yY (λa c hd hn hk=>?_) (λa K w1 Shun T hk q=>?_) (λa c hd hn hk=>z _ a c hd hn hk)
 .exact aL.append (a:=#[aZ,br]) (b:=#[.I W,.I ab]) I (Nx _ _ _)
 .exact bX (v:=aZ) I4 D<|bX (v:=br) I4 C<|bX (v:=.I W) I4 U<|bX (v:=.I ab) I4 U<|bX (v:=undef) (by simp[Tryz.f7]) U<|mF (by simp[Tryz.f7])
 .obtain⟨u,g,E⟩:=hk.has 18 _ U;have hk:=bX (F:=vr w.heap.size mX) g ⟨hn,E⟩ hk;unfold x2;refine cG ?_;rw[ey (aP Tryz.f7 0)];refine f5 hk (aC U (TT (s:=18) U U)<|aC U (eD (F:=a3 0) U IX)<|aC U (zn (s:=18) U U)<|rfl) λa1 w1 B d1 b1=>cG (ra ?_);rw[ey (aP Tryz.f7 1)];exact(show cb _ (.R _ (List.range' 0 (4+7))::_) _ _ _ _ from k_ B (aC U IW<|aC U IW<|aC U IW<|aC U IW<|rfl) AX λS w2 A J L=>i9 ⟨J.trans (d1.trans hd),A.a7 ⟨U,U,U,U,U,U,PA⟩,(b1.trans (L.mono b1.size)).mono hn⟩)
 .obtain⟨f,i,r1⟩:=hk.has 11 _ U;obtain⟨e,h,r⟩:=hk.has 12 _ U;obtain⟨R,y,rfl⟩:=hk.has 13 _ U;obtain⟨Q,t,rfl⟩:=hk.has 14 _ U;rw[show(#[Operand.tmp 11,.tmp 12,.tmp 13,.tmp 14,.const (.I 0),.const (.I 9223372036854775807)].map a.eval)=#[f,e,.I W,.I ab,.I 0,.I 9223372036854775807]from by simp[Act.eval,i,h,y,t]];exact P K w1 f e (kO (l:=[f,e]) λx m=>by
   simp at m;rcases m with rfl|rfl
   .exact q.get _ _ _ i i
   .exact q.get _ _ _ h h) r1 r
def ath{fu fv:bg}{W ab d:Nat}{b:List bQ}{w:aH}{Post:fE}{M:c5}(h:∀n,fu.ok n)(g:∀n,fv.ok n)(s:aL (bU M) #[aZ,br] #[aZ,br])(l:fu.R w aZ)(k:fv.R w br)(A:∀M w aZ br,aL (bU M) #[aZ,br] #[aZ,br]->fu.R w aZ->fv.R w br->eb O prog Post 8 #[aZ,br,.I W,.I ab,.I 0,.I 9223372036854775807] M w d (λu _ w'=>zi b w' u/\cO M w w')):
 eb O prog Post 7 #[aZ,br,.I W,.I ab] M w d (λu _ w'=>zi b w' u/\cO M w w'):=by
 refine x0 (Fr:=D5 b) U h g s l k A λn0 a C hd hn hk=>?_;refine uI (ks':=[.R (aP Tryz.f7 1) (List.range' 8 3),.code .ret]) ?_;rw[ey (aP Tryz.f7 1)];refine(show cb _ (.R _ (List.range' 5 (3+3))::_) _ _ _ _ from k_ hk (aC U (yW U U)<|aC U (yV U U)<|aC U (x6 U U)<|rfl) AX λa1 w1 j d1 b1=>i9 λf cs m=>?_);obtain⟨v,w2,fr,⟨z,x⟩,e,c⟩:=y1 (F:=Tryz.f7) (ks:=[]) (i:=8) (xa:=8) (sa:=16) (xi:=9) (AP:=10) (sb:=18) (y:=.tmp 17) j (d1.trans hd) ⟨U,U,U,U⟩ U x1 AX (λtmps w D B a_ q p o t r=>by simp[results,results7,go_sem,rq,q,p,o,t.rules.1,r.rules.1]) f cs m;exact⟨v,w2,fr,⟨z,(b1.mono hn).trans x⟩,e,c⟩
end
section
open iD
variable{O:gp}
def rG(x y:Int):bg:=kx x y
def AQ(x y:Int):bg:=gh wW (x,y)
section
variable{N n0:Nat}{K:bZ}{o:Oper}{F:bg}{x y:uaq}
def atk{m n:Int}(a:o.op=.box 24 x)(b:bq K x (rG m n)):bK (aa prog true) N K o (AQ m n):=dy b λev w h=>by have h:ev x=.agg #[.I m,.I n]:=h;have c:cC w (w.alloc (.cells #[.I m,.I n] 24)):=(vaa _ w).alloc IB _;refine⟨.P w.heap.size 0,_,Aq,⟨w.heap.size,0,U,?_,?_⟩,c⟩<;>exact rP (vbm w _) U U
def xY{m n:Int}(a:o.op=.fieldAddr 24 x 0)(c:bq K x (AQ m n)):bK (aa prog true) N K o (gh kw m):=dy c λev w h=>by obtain⟨b,f,e,h0,d⟩:=h;exact⟨.P b f,w,Aq,⟨b,f,U,h0⟩,vaa _ _⟩
def uO{m n:Int}(a:o.op=.fieldAddr 24 x 1)(c:bq K x (AQ m n)):bK (aa prog true) N K o (gh kw n):=dy c λev w h=>by obtain⟨b,f,e,h0,d⟩:=h;exact⟨.P b (f+1),w,Aq,⟨b,f+1,U,d⟩,vaa _ _⟩
def GJ{c n:Int}{ats:uau}(f:o.op=.call {callee:=.value (.func 4),args:=#[x,y],argTypes:=ats})(d:bq K x (a3 c))(b:bq K y (a3 n))(g:fg c)(hn:0<n/\n<=1000000):bK (aa prog true) N K o (a3 (jc c n)):=SH f (λa w=>apu a w) d b λv v' w h i=>by cases h;cases i;refine(apw c n g hn w).mono ?_;rintro e w' ⟨rfl,rfl⟩;exact⟨_,U,U,vaa _ _⟩
def atl{s v:Nat}{t:List bQ}(e:o.op=.store 41 (.tmp s) (.tmp v))(hs:K s=some (jL n0 41 1))(hv:K v=some (AL t))(hg:o.guard=none:=by rfl)(hd:o.dst=none:=by rfl):F_ (aa prog true) N n0 K o (41,s) (JQ n0 t):=⟨hg,hd,λa w hk=>by
 obtain⟨x,b,r1⟩:=hk.has s _ hs;obtain⟨y,i,d⟩:=hk.has v _ hv;obtain⟨w',h,g,f,c⟩:=xn (n0:=n0) (t:=t) (ev:=a.eval) (w:=w) e (by rw[cd b];exact r1) (by rw[cd i];exact d);rw[cd b]at c;exact⟨w',h,g,f,x,b,c⟩⟩
def atm{s v:Nat}(e:o.op=.store 47 (.tmp s) (.tmp v))(hs:K s=some (jL n0 47 2))(hv:K v=some GC)(hg:o.guard=none:=by rfl)(hd:o.dst=none:=by rfl):F_ (aa prog true) N n0 K o (47,s) (Ge n0):=⟨hg,hd,λa w hk=>by
 obtain⟨x,b,r1⟩:=hk.has s _ hs;obtain⟨y,i,d⟩:=hk.has v _ hv;obtain⟨w',h,g,f,c⟩:=TF (n0:=n0) (ev:=a.eval) (w:=w) e (by rw[cd b];exact r1) (by rw[cd i];exact d);rw[cd b]at c;exact⟨w',h,g,f,x,b,c⟩⟩
end
def uF(F:Func):Code:=.seq (.region 0 (aP F 0) false) (.seq (.region 1 (aP F 1) true) (M5 F 1))
theorem T0:f6.body=some (uF f6):=by kernel_rfl
def uw:fG prog true f6=true:=by decide+kernel
def NN:m3:=⟨10,λi=>i==13||i==14||decide (17<i),λi=>decide (10<i),[(17,41,8),(19,47,10)]⟩
def atn{n0:Nat}{b:List bQ}{a:Act}{w:aH}(hd:a.defers=[])(hk:af 40 (be [(6,jL n0 41 1),(8,JQ n0 b),(9,a3 0),(10,Ge n0)]) a w):pD (aa prog true) f6 [.code (M5 f6 1)] (λv w1=>D4 b w1 v/\Below n0 w w1) a w:=by
 obtain⟨v6,t,d,s,rfl,o,m,AR⟩:=hk.has 6 _ rfl;obtain⟨v8,y,jJ,a_,rfl,aDb,x,c⟩:=hk.has 8 _ rfl;obtain⟨v9,u,B⟩:=hk.has 9 _ rfl;obtain⟨v10,j,GK,rfl,aDc,i⟩:=hk.has 10 _ rfl;obtain⟨ui,c9,dF,eB,ku,kv,o6,pU,rA,qJ,rB,rC,m7,rD,m8,qP,S,R,Q,P,m9,mG,rE,qI,rF,O,N,M,L,K,ac0,ac1,ac2,Z,Y,X,W,V,U,T,rfl⟩:=ati hk.size hd;obtain rfl:=vbq t;obtain rfl:=vbq y;obtain rfl:=vbq u;obtain rfl:=vbq j;cases B;clear t y u j hk hd;obtain⟨D,rfl⟩:∃q,s=#[q]:=by obtain⟨l⟩:=s;match l,AR with| [q],_=>grind
 obtain⟨J,H,I⟩:=m.all;obtain⟨JZ,z,DQ⟩:=x.all;obtain⟨C,A,J0⟩:=i.all;obtain⟨⟨f,e,rfl,-,-⟩,-⟩:=id c;have F:Hid (o5 w _ b):=c;have g:Hid (ag w d #[D] 41):=m;clear m x i c;simp[M5,f6,bM.ed,bM.lY];refine alo ?_;go_wp2
 go_region
 go_wp2
 have u6:ag (w.setCell ⟨d,0,none⟩ (.slice f b.length e)) d #[.slice f b.length e] 41:=g.out.set 0 _;have r:iS sK w (w.setCell ⟨d,0,none⟩ (.slice f b.length e)):=iS.set g.out (by grind[sK]) _ _;have NK:Below n0 w (w.setCell ⟨d,0,none⟩ (.slice f b.length e)):=(vaa n0 w).setCell (p:=⟨d,0,none⟩) o _;have n:=o5.kept r F.out;clear J H I JZ z DQ C A J0 r;generalize w.setCell ⟨d,0,none⟩ (.slice f b.length e)=k at *;obtain⟨E,-⟩:=u6.rules;exact vbe (v:=.tuple #[.agg #[.slice f b.length e],.T]) (by simp[results,results6,go_sem,E]) rfl ⟨_,rfl,⟨_,rfl,o5.kept (show iS sK k k.drew from⟨vad _,λ_ _ _ _ h _=>h⟩) n⟩,NK.trans (show Below n0 k k.drew from⟨rfl,rfl,rfl,vad _,λ_ _=>rfl⟩)⟩
def J1:∀p∈NN.jo,vO p.2.1:=by decide
def atp{fu fv:bg}{d:Nat}{x y:Int}{m:List bQ}{w:aH}{Post:fE}{M:c5}(k:∀n,fu.ok n)(j:∀n,fv.ok n)(i:fg x)(hy:fg y)(dD:aL (bU M) #[aZ,br] #[aZ,br])(jq:fu.R w aZ)(jr:fv.R w br)(JX:∀W ab:Nat,0<W->W<=16->0<ab->ab<=64->∀M w aZ br,aL (bU M) #[aZ,br] #[aZ,br]->fu.R w aZ->fv.R w br->eb O prog Post 8 #[aZ,br,.I W,.I ab,.I 0,.I 9223372036854775807] M w d (λu _ w'=>zi m w' u/\cO M w w')):
 eb O prog Post 6 #[.agg #[.I x,.I y],aZ,br] M w d (λu _ w'=>D4 m w' u/\cO M w w'):=by
 intro n Shun hn E eC aF az aI aK aG csZ hc c0;obtain⟨p,f⟩:∃p:Nat,jc x 16=p:=⟨(jc x 16).toNat,by have:=y3 x (n:=16) AY;omega⟩;obtain⟨q,hq⟩:∃q:Nat,jc y 64=q:=⟨(jc y 64).toNat,by have:=y3 y (n:=64) AY;omega⟩;have aDd:=y3 x (n:=16) AY;have aDe:=y3 y (n:=64) AY;have T:jX prog 6:=B5 func6 uw T0;rw[vcf func6 T0];have o:aL (bU M) #[.agg #[.I x,.I y],aZ,br] #[.agg #[.I x,.I y],aZ,br]:=aL.append (a:=#[.agg #[.I x,.I y]]) (b:=#[aZ,br]) (.one (.qU (Nx _ _ _))) dD;have H:=Held.start (n0:=w.heap.size) E IB (a:=⟨#[.agg #[.I x,.I y],aZ,br]++Array.replicate 37 undef,[]⟩) (o.append (Gc _ _)) rfl;refine QY l5 T H (k':=[.code (.region 1 (aP f6 1) true),.code (M5 f6 1)]) AT AT (I:=af 40 (be [(0,rG x y),(1,fu),(2,fv),(39,mX)])) (J:=af 40 (be [(1,fu),(2,fv),(3,AQ x y),(6,jL w.heap.size 41 1)])) (gY _ (e7 ⟨PA,k _,j _,PA,PA⟩)) (gY _ (e7 ⟨k _,j _,PA,rfl,PA⟩)) (bX (v:=.agg #[.I x,.I y]) I4 rfl<|bX (v:=aZ) I4 jq<|bX (v:=br) I4 jr<|bX (v:=undef) Ab rfl<|mF Ab) (λW1 r hk=>?_) λa1 co w1 H1 V=>?_
 .obtain⟨u,B,hu⟩:=hk.has 39 _ rfl;have hk:=bX (F:=vr w.heap.size mX) B ⟨r,hu⟩ hk;unfold uF;refine cG ?_;rw[ey (aP f6 0)];exact f5 hk (aC rfl (atk rfl rfl)<|aC rfl (TT (s:=39) rfl rfl)<|aC rfl (eD (F:=gB false) rfl IX)<|rfl) λbA w2 k2 d2 b2=>cG (i9 ⟨d2,k2.a7 ⟨rfl,rfl,rfl,rfl,PA⟩,b2.mono r⟩)
 have A:(1:Int)+(p:Int)=((1+p:Nat):Int):=AY;have t:(1:Int)+(q:Int)=((1+q:Nat):Int):=AY;refine N8 (N:=40) (S:=NN) (L:=be [(1,fu),(2,fv),(3,AQ x y)]) (Q:=be [(6,jL w.heap.size 41 1)]) l5 mixed T AT (e7 ⟨k _,j _,PA,PA⟩) (λs F e=>?_) AT rfl rfl rfl rfl func7 AU TZ rfl hn rfl (cp:=D5 m) (by
  rw[ey (aP f6 1)];exact bj.hq rfl IW (hok:=k _)<|bj.hq rfl IW (hok:=j _)<|bj.hq rfl (xY rfl rfl)<|bj.hq rfl It<|bj.hq (F:=a3 p) rfl (by rw[<-f];exact GJ rfl rfl IX i AX)<|bj.hq (F:=a3 (1+p:Nat)) rfl (by rw[<-A];exact F8 rfl IX rfl Bt AX)<|bj.hq rfl (uO rfl rfl)<|bj.hq rfl It<|bj.hq (F:=a3 q) rfl (by rw[<-hq];exact GJ rfl rfl IX hy AX)<|bj.hq (F:=a3 (1+q:Nat)) rfl (by rw[<-t];exact F8 rfl IX rfl Bt AX)<|hg rfl (λa M w Shun E hk o=>by
   obtain⟨P,D,r1⟩:=hk.has 12 _ rfl;obtain⟨K,C,Y⟩:=hk.has 13 _ rfl;obtain⟨v3,q3,rfl⟩:=hk.has 17 (a3 (1+p:Nat)) rfl;obtain⟨v4,Z,rfl⟩:=hk.has 21 (a3 (1+q:Nat)) rfl;rw[show(#[Operand.tmp 12,.tmp 13,.tmp 17,.tmp 21].map a.eval)=#[P,K,.I (1+p:Nat),.I (1+q:Nat)]from by simp[Act.eval,D,C,q3,Z]];exact ath k j (kO (l:=[P,K]) λx i=>by
    simp at i;rcases i with rfl|rfl
    .exact o.get _ _ _ D D
    .exact o.get _ _ _ C C) r1 Y (JX _ _ AY AY AY AY))<|bj.hk rfl IW (λ_=>asr) J1<|bj.hk rfl (yW rfl rfl) (λ_=>asq) J1<|bj.hk rfl (yV rfl rfl) JD J1<|bj.hk rfl (x6 rfl rfl) JD J1<|bj.hn (F:=jL w.heap.size 41 1) rfl (λa w' hn _=>TR rfl a w' hn) (hs:=λ_ _ _ _=>GD)<|bj.hn (F:=jL w.heap.size 47 2) rfl (λa w' hn _=>TS rfl a w' hn) (hs:=λ_ _ _ _=>GD)<|hst rfl (atl rfl rfl rfl) (hs:=λ_ p f g=>xo (by simp[NN]at f;rcases f with rfl|rfl;exact absurd rfl g;rfl))<|bj.hk rfl In JD J1<|hst rfl (atm rfl rfl rfl) (hs:=λ_ p f g=>asp (by simp[NN]at f;rcases f with rfl|rfl;rfl;exact absurd rfl g))<|rfl) Io H1 (V.a7 ⟨rfl,rfl,rfl,PA⟩) (V.a7 ⟨rfl,PA⟩) λbA M2 w2 fx Jq dW pE R=>?_
 .unfold be at e;split at e
  .cases e;exact⟨rfl,λp _=>GD⟩
  .cases e
 refine Fl l5 func6 uw T0 R AT hc (I:=af 40 (be [(6,jL w.heap.size 41 1),(8,JQ w.heap.size m),(9,a3 0),(10,Ge w.heap.size)])) (gV:=D4 m) (gY _ (e7 ⟨rfl,rfl,PA,rfl,PA⟩)) (xu _) (dW.a7 ⟨rfl,rfl,rfl,rfl,PA⟩) (λW1 r hI=>uI (tA (i9 (atn R.defers hI)))) λu kf X h1 h2 h3 h4 a6 b6=>c0 u kf X fx Jq pE h1 h2 h3 h4 ⟨b6,λb c e z U i=>a6 b c e z ⟨U,E.lt U⟩ i⟩
end
section
open iD
variable{n0:Nat}
def atx{ρ:Ren}{w w':aH}(d:tD n0 ρ w w'){b c:Nat}(r:ρ.rel b c){l:uam}{T:uaa}(h:ag w b l.toArray T):∃a,ag w' c a.toArray T/\de (ap ρ) l a:=by obtain⟨j,e,m⟩:=d.types _ _ _ _ _ r h;obtain⟨a⟩:=j;refine⟨a,e,Q0 AN λi v v' hv f=>?_⟩;obtain⟨x,g,k⟩:=d.cells ⟨b,i,none⟩ ⟨c,i,none⟩ v ⟨r,U,U⟩ ((h.rules.1 i).trans AN);rw[(ag.rules (show ag w' c a.toArray T from e)).1 i]at g;grind
theorem follows:prog.follows .rangeFuncRecover=true:=by decide+kernel
end
open iD
def NQ(t:List bQ):bg:=⟨NG 0 t,(JQ 0 t).fZ,λ_=>True,λn _ ρ w w' v v' hc hv h=>by
 have:=xy (n0:=0) t ρ w w' v v' ⟨hc.cells,hc.types,λ_ _ _ _=>vaz _,hc.inj⟩ hv h
 grind⟩
section
variable{N:Nat}{K:bZ}{o:Oper}{F:bg}{x y z:uaq}{ao:Type}{T T':uaa}
def aty{t:List bQ}{w:aH}(h:(NQ t).R w v):∃b,v=.P b 0/\∃a_,w.cell? (.a b 0)=some a_/\o5 w a_ t:=by obtain⟨b,a_,rfl,-,c,a⟩:=h;exact⟨b,U,a_,(c.rules.1 0).trans U,a⟩
def T2{t:List bQ}(a:o.op=.fieldAddr 41 x 0)(c:bq K x (NQ t)):bK (aa prog true) N K o (gh (Jf 5 tQ) t):=dy c λev w h=>by obtain⟨b,e,a_,f,d⟩:=aty h;exact⟨.P b 0,w,Aq,⟨b,0,U,a_,f,d.pN⟩,vaa _ _⟩
def atz{t:List bQ}(a:o.op=.extract x 0)(b:bq K x (JS t)):bK (aa prog true) N K o (AL t):=dy b λev w h=>by obtain⟨a_,e,c⟩:=h;exact⟨.agg #[a_],w,Aq,⟨a_,U,c⟩,vaa _ _⟩
def atA{t:List bQ}(a:o.op=.extract x 1)(b:bq K x (JS t)):bK (aa prog true) N K o (gB true):=dy b λev w h=>by obtain⟨a_,e,c⟩:=h;exact⟨.T,w,Aq,U,vaa _ _⟩
end
def atC(c:bQ)(w:aH)(v:Value):Prop:=∃b9 vs bt,v=.agg #[.I c.kind,.I c.cY,b9,vs,bt]/\uE w b9 vs bt c
def T3(c:bQ):bg:=⟨atC c,λw w' v hb⟨b9,vs,bt,e,h⟩=>⟨b9,vs,bt,e,h.mono (bm.b4 hb)⟩,λ_=>True,λn _ ρ w w' v v' hc hv⟨b9,vs,bt,e,h⟩=>by
 subst e
 obtain⟨l',rfl,k⟩:=pF hv
 cases k with
 |cons k1 k=>cases k with
  |cons k2 k=>cases k with
   |cons k3 k=>cases k with
    |cons k4 k=>cases k with
     |cons gD k=>
      cases k
      rw[d9 k1,d9 k2]
      exact⟨_,_,_,U,av.bw.carry BT hc.cells k3 h.k7,av.bw.carry Qu hc.cells k4 h.jC,av.bw.carry LS hc.cells gD h.j_⟩⟩
section
variable{N:Nat}{K:bZ}{o o2:Oper}{F:bg}{x y z:uaq}{ao:Type}{T T':uaa}
def atD{c:bQ}(a:o.op=.load 30 x)(g:bq K x (gh tQ c)):bK (aa prog true) N K o (T3 c):=dy g λev w h=>by obtain⟨b,f,e,b9,vs,d,h0,n,m,l,k,j⟩:=h;simp only[vcg]at h0;have i:=dx h0;exact⟨.agg #[.I c.kind,.I c.cY,b9,vs,d],w,Aq,⟨b9,vs,d,U,j⟩,vaa _ _⟩
section
variable{ops:eQ}{i d s:Nat}{Q:uap}{rest:uag}{a:Act}{w:aH}
def atE{t:List bQ}(l:ops[i]?=some o)(j:ops[i+1]?=some o2)(e:o.op=.alloc 41)(c:o2.op=.store 41 (.tmp d) (.tmp s))(g:K s=some (AL t))(hk:af N K a w)(hd:o.dst=some d)(f:o2.dst=none)(g1:o.guard=none)(p:o2.guard=none)(a5:d<N)(y:d≠s)(k:∀a' w1,af N (up K d (NQ t)) a' w1->a'.defers=a.defers->cC w w1->wpOps (aa prog true) ops Q rest a' w1):wpOps (aa prog true) ops Q (i::(i+1)::rest) a w:=by
 obtain⟨v,q,a_,rfl,h⟩:=hk.has s _ g;obtain⟨⟨u,r,rfl,-,-⟩,-⟩:=id h;have b:cC w (w.alloc (.cells #[.slice u t.length r] 41)):=(vaa _ w).alloc IB _;have n:Hid _:=h;clear h;refine SI (F:=NQ t) (F9:=w.alloc (.cells #[.N] 41)) l j g1 p hd f a5 y hk q (λev=>?_) (λev A z=>?_) b ⟨w.heap.size,_,U,vaz _,ag.new _ _ _,o5.kept (JP b) n.out⟩ λa' x m=>k a' _ x m b
 .cases o;simp only at e;subst e;go_simp
 .cases o2;simp only at c;subst c;go_simp
end
end
def tW(l:uam):bg:=⟨λw u=>∃g c,u=.S g 0 1 c/\∀j x,l[j]?=some x->w.cell? (.a g j)=some x,λ_ _ _ hb⟨g,c,h1,h2⟩=>⟨g,c,h1,λj x h=>bm.b4 hb _ _ _ (h2 j x h)⟩,λ_=>False,λ_ h=>h.elim⟩
section
variable{N:Nat}{K:bZ}{o:Oper}{F:bg}{x y z:uaq}{ao:Type}{T T':uaa}{P:ck}
def T4{n:Int}(a:o.op=.buildSlice 26 1 #[(0,x)])(b:bq K x (a3 n)):bK (aa prog true) N K o (tW [.I n]):=dy b λev w h=>by
 have e:ev x=.I n:=h;refine⟨.S w.heap.size 0 1 1,w.alloc (.cells #[.I n] 2),?_,⟨w.heap.size,1,U,λj v c=>?_⟩,(vaa _ w).alloc IB _⟩
 .cases o;simp only at a;subst a;go_simp
 simp_all
end
def tS{P:ck}{t e:uaa}{z:Value}{size bytes:Nat}(E:rh P t e z size bytes){ops:eQ}{i d:Nat}{o:Oper}{a:Act}{w:aH}{x y:uaq}(s:ops[i]?=some o)(J:o.guard=none)(hd:o.dst=some d)(b:o.op=.call {callee:=.builtin .append,args:=#[x,y],argTypes:=#[t,t]}){B n:Nat}{xs news:uam}(q:a.eval x=v)(I:w.ownsRow B e size v n xs){m g c:Nat}(p:a.eval y=.S g 0 m c)(A:news.length=m*size)(K:∀j u,news[j]?=some u->w.cell? (.a g j)=some u)(H:∀u∈news,u.oneCell'=true)(M:n+m<=1000000)(h:bytes<=1000)(C:B<=w.heap.size){Q:uak}(k:∀v' w',w'.ownsRow B e size v' (n+m) (xs++news)->w.grownBy w' v.ownBlock->(v'.ownBlock=v.ownBlock\/v'.ownBlock=some w.heap.size)->Q (a.put (some d) v') w'):wpOps P ops (ly Q) [i] a w:=by
 obtain⟨N,hi,l,hsz,f⟩:=vbt E.hi;obtain⟨v',w',r,F,D,R,L⟩:=run_append_own_at (P:=P) w B t o.type e N z size bytes E.ht hi l hsz f E.Q7 E.hsz v n xs I ⟨g,0,none⟩ m c news A (λj u O=>by
  grind[Addr.add]) H (by simp[maxLen];omega) (by
   have:(n+m)*bytes<=1000000*1000:=Nat.mul_le_mul M h;omega) C
 refine ip s J hd (v:=v') (w1:=w') ?_ (k v' w' F D L);simp only[execOp,b,resolve,invoke,builtin,q,p,r,Result.andThen,Sem.run_bind,Sem.run_pure,List.map_toArray,vdc,List.map_nil]
def atF{w:aH}{B:Nat}{e:uaa}{size n:Nat}{xs:uam}(h:w.ownsRow B e size v n xs){g:Nat}(hg:v.ownBlock=some g):∃c,ag w g c e:=by
 obtain⟨-,⟨hv,-⟩|⟨g',cap,bc,hv,-,a,-⟩⟩:=h
 .rw[hv]at hg;cases hg
 .rw[hv]at hg;cases hg;exact⟨bc,a⟩
def atG{w:aH}{B:Nat}{e T:uaa}{size n:Nat}{xs:uam}(h:w.ownsRow B e size v n xs){b:Nat}{cs:dC}(k:ag w b cs T)(d:e≠T)(f:Nat)(x:Value):(w.setCell ⟨b,f,none⟩ x).ownsRow B e size v n xs:=by
 obtain⟨a,⟨hv,hn⟩|⟨g,cap,bc,hv,hg,j,c⟩⟩:=id h
 .exact⟨a,.inl ⟨hv,hn⟩⟩
 .refine⟨a,.inr ⟨g,cap,bc,hv,hg,?_,c⟩⟩;have i:g≠b:=λe=>Fi;grind[Below.heap_setCell]
def D9{w w1:aH}{B:Nat}{e:uaa}{size n:Nat}{xs:uam}(h:w.ownsRow B e size v n xs)(d:cC w w1):w1.ownsRow B e size v n xs:=by
 obtain⟨a,⟨hv,hn⟩|⟨g,cap,bc,hv,hg,b,c⟩⟩:=id h
 .exact⟨a,.inl ⟨hv,hn⟩⟩
 .exact⟨a,.inr ⟨g,cap,bc,hv,hg,(d.block g (ag.lt (show ag w g bc e from b))).trans b,c⟩⟩
def T5{w w1:aH}{B n:Nat}{e:uaa}{size:Nat}{xs:uam}(h:w.ownsRow B e size v n xs)(hg:w.grownBy w1 v.ownBlock)(c:B<=w.heap.size):Below B w w1:=
 ⟨hg.os,hg.tape,hg.output,hg.size,λb a=>hg.block b AY λe=>by have:=(h.lt b e.symm).1;omega⟩
end bj
namespace bj
open Conc ConcM RowKit av bn cW dv lU
section
variable{O:gp}
section
variable{P:ck}{Post:fE}{n:Nat}{Shun:uan}{M:c5}{w:aH}{f:ual}{a b:Act}{k k':uab}{cs:fA}{n0:Nat}{aD:c5}{w0:aH}{N:Nat}{K:bZ}
def atH(u:(cJ P).Good)(hF:P.follows .rangeFuncRecover=true)(F:jX P f){D:fN}(hd:D.d=cs.length)(N:Ac P D f)(Q:hR D a b)(y:k.all (hQ D)=true)(H:Held O P aD w0 n0 a M w Shun)(hk:k.all (fM P)=true)(X:k'.all (fM P)=true){U:c5}{I J:uak}(hI:oM n0 I)(V:oM n0 J)(h0:I a w)(hrun:∀W,n0<=W.heap.size->I a W->cb (aa P true) k k' (λa1 w1=>a1.defers=[]/\(∀s,U s->a1.tmps[s]?=a.tmps[s]?)/\J a1 w1/\Below n0 W w1) a W)(Y:∀a' j M' w',Held O P aD w0 n0 a' M' w' Shun->hR D a' j->(∀s,U s->a'.tmps[s]?=a.tmps[s]?)->J a' w'->ca P Post n Shun 0 (bf ((base f).at j k') cs) w'):
 ca P Post n Shun 0 (bf ((base f).at b k) cs) w:=by
 refine QN u hF (D:=D) H.fk (f:=f) (cs0:=[]) (bs:=cs) (g:=bf ((base f).at b k) cs) AY (.gU (Q.QO f k) (N.b9 y a) cs hd.symm _ _) (Ik u F H.all H.defers hk) .nil ⟨rfl,rfl⟩ (R:=λx cse h t=>cse=[]/\∃a1,x=(base f).at a1 k'/\a1.defers=[]/\(∀s,U s->a1.tmps[s]?=a.tmps[s]?)/\J a1 t/\∃T,Below n0 {h with tape:=T} t) (λh l T=>?_) ?_
 .obtain⟨a1,w1,⟨r,m,q,c⟩,p⟩:=hrun {h with tape:=T} (by show n0<=h.heap.size;rw[l.size];exact H.size) (hI _ _ _ _ _ (H.fk.lA l T) H.all h0) (base f) [eI f];exact⟨_,[],w1,p,rfl,a1,rfl,r,m,q,T,c⟩
 .rintro ρ x cse h t aO Z w' g' l ⟨rfl,a1,rfl,A,m,r,T,q⟩ B o d z;cases o;obtain⟨a',rfl,c,p⟩:=Il A X B;obtain⟨j,rfl,K⟩:=mo.act hd z;refine Y a' j (pA ρ) w' (H.next l d q (d.all c) p) K (λs hs=>?_) (V _ _ _ _ _ (d.lA H.size) c r);have e:=m s hs;cases i:a.tmps[s]? with|none=>rw[i]at e;have:=c.size;grind|some v=>rw[i]at e;obtain⟨v',E,C⟩:=c.some e;obtain⟨S,L⟩:=d.rel;rw[E,LW L.one C ((H.all.get _ _ _ i i).mono d.le)]
structure J4(O:gp)(P:ck)(N:Nat)(K:bZ)(aD:c5)(w0:aH)(o8:Act):Prop where
 fk:∃Shun,Home O P aD Shun w0
 all:aL (bU aD) o8.tmps o8.tmps
 gQ:af N K o8 w0
 ok:∀s F,K s=some F->F.ok w0.heap.size
def GL(K:bZ)(o8 a:Act):Prop:=∀s F,K s=some F->a.tmps[s]?=o8.tmps[s]?
def J4.now{o8:Act}(p:J4 O P N K aD w0 o8)(H:Held O P aD w0 w0.heap.size a M w Shun)(hs:GL K o8 a)(a5:a.tmps.size=N):af N K a w:=by
 obtain⟨S,i⟩:=p.fk;have g:∀b,aD b->b<w0.heap.size:=λb d=>by obtain⟨o,f,-⟩:=i.cl b d;grind
 have h:cO aD w0 w:=λb c e fr d j=>H.keep b c e fr ⟨d,g b d⟩ j;refine⟨a5,λs F e=>?_⟩;obtain⟨v,f,k⟩:=p.gQ.has s F e;exact⟨v,(hs s F e).trans f,F.gX _ (p.ok s F e) _ _ _ _ _ (h.lA i) (p.all.get _ _ _ f f) k⟩
def Held.atJ(H:Held O P aD w0 n0 a M w Shun):Held O P M w w.heap.size a M w Shun:=.start H.fk (vad _) H.all H.defers
def Held.phase(H:Held O P aD w0 n0 a M w Shun)(hk:af N K a w)(hok:∀s F,K s=some F->F.ok w.heap.size):J4 O P N K M w a:=⟨⟨_,H.fk⟩,H.all,hk,hok⟩
def Held.back{a':Act}{M':c5}{w':aH}{e:uan}(H:Held O P aD w0 n0 a M w Shun)(c:Held O P M w w.heap.size a' M' w' e):Held O P aD w0 n0 a' M' w' e:=
 ⟨c.fk,λb d=>c.sub b (H.sub b d),H.since.trans c.since,H.keep.trans (M':=λb=>M b/\b<w.heap.size) (λb d=>⟨H.sub b d.1,van d.2 H.size⟩) c.keep,c.all,c.defers,vac H.size c.since.size⟩
variable{ops:eQ}{i:Nat}{rest:uag}{o:Oper}{o8:Act}
def atK(hC:(cJ P).Good)(sn:P.follows .mixedOrders=true)(Y:jX P f){D:Nat->fN}(q:J3 P f ops k D)(hk:(Item.inRegion ops []::k).all (fM P)=true)(p:J4 O P N K aD w0 o8)(ado:∀(i:Nat)(o:Oper)(d:Nat),ops[i]?=some o->o.dst=some d->K d=none)(g:Nat){m:Oper}{d:Nat}{gf:ual}{S:Func}{fJ:Code}{args:uba}{ats:uau}(X:ops[g]?=some m)(Q:m.op=.call {callee:=.value (.func gf),args,argTypes:=ats})(uJ:P.funcs[gf]?=some S)(jV:(S.name== "runtime.NumGoroutine")=false)(hb:S.body=some fJ)(c6:m.guard=none)(gS:∀n,lU.ik (D n) m=true)(hn:n+16*d<=200){I:ubl}(hI:∀am,oM w0.heap.size (I am)){z:Tmp}(gI:m.dst=some z)(Fo:z<N){ie:uaz}(hsz:∀am a w,I am a w->am.size=ops.size/\a.tmps.size=N)(A:hR (D cs.length) a b)(H:Held O P aD w0 w0.heap.size a M w Shun)(hst:GL K o8 a)(h0:I (Array.replicate ops.size false) a w)(hstep:∀am a W i o,af N K a W->I am a W->a.defers=[]->w0.heap.size<=W.heap.size->i≠g->am.getD i true=false->ops[i]?=some o->(∀e∈o.after,Region.binds .any e=true->am.getD e.on false=true)->wpOps (aa P true) ops (ly λa1 w1=>((∃d v,o.dst=some d/\a1=a.put (some d) v)\/a1=a)/\I (am.setIfInBounds i true) a1 w1/\Below w0.heap.size W w1) [i] a W)(im:∀am a M w Shun,Held O P aD w0 w0.heap.size a M w Shun->af N K a w->I am a w->am.getD g false=false->(∀e∈m.after,Region.binds .any e=true->am.getD e.on false=true)->eb O P Post gf (args.map a.eval) M w d (λu _ w'=>ie w' u/\cO M w w'))(jY:∀am a w u,I am a w->am.getD g false=false->(∀e∈m.after,Region.binds .any e=true->am.getD e.on false=true)->ie w u->I (am.setIfInBounds g true) (a.put (some z) u) w)(h_:∀am a b M' w' c B,af N K a w'->I am a w'->Region.ready .any ops am=[]->c<=n+16*d->Held O P aD w0 w0.heap.size a M' w' B->hR (D cs.length) a b->GL K o8 a->ca P Post c B 0 (bf ((base f).at b (.R ops []::k)) cs) w'){id:Nat}:ca P Post n Shun 0 (bf ((base f).at b (.code (.region id ops true)::k)) cs) w:=by
 have bP:∀am a M w Shun k,Held O P aD w0 w0.heap.size a M w Shun->I am a w->I am a (w.at k):=λam a M w Shun k H h=>hI am _ _ _ _ _ ((show cO M w (w.at k)from λ_ _ _ _ _ x=>x).lA H.fk) H.all h;have dR:∀l:List Nat,(Item.inRegion ops l::k).all (hQ (D cs.length))=true:=λl=>by rw[vbi,vae];refine⟨?_,q.items _⟩;simp[hQ];intro i _;cases t:ops[i]? with|none=>rfl|some o=>exact vap.1 (q.ops _) o (vbf t)
 refine QR sn (I:=λam b M w c Shun=>∃a,hR (D cs.length) a b/\Held O P aD w0 w0.heap.size a M w Shun/\GL K o8 a/\I am a w/\c<=n+16*d/\(am.getD g false=false->c<=n)) (λam b M w c Shun k⟨a,hv,h,hs,hi,h'⟩=>⟨a,hv,h.at k,hs,bP _ _ _ _ _ _ h hi,h'⟩) ?_ (λam b M w c Shun⟨a,hv,h,hs,hi,r,_⟩ hr=>h_ am a b M w c Shun (p.now h hs (hsz _ _ _ hi).2) hi hr r h hv hs) ⟨a,A,H,hst,h0,vdp _ _,λ_=>vad _⟩;intro am b M w c Shun i o rest ⟨a,A,H,hst,hi,Bl,pE⟩ kE t L K';have rb:i<am.size:=by grind
 by_cases V:i=g
 .subst V;rw[X]at t;cases t;have hP:am.getD i false=false:=by grind
  have C:=(hsz _ _ _ hi).2;refine uv Q uJ jV hb AN Y q A H hk X c6 ⟨gI,AN⟩ gS (I:=I am) (J:=λa' w'=>(∃u,a'=a.put (some z) u)/\I (am.setIfInBounds i true) a' w') (ie:=ie) (hI am) hi (λk=>im am a M (w.at k) Shun (H.at k) (p.now (H.at k) hst C) (bP _ _ _ _ _ _ H hi) hP L) (λu w' r j=>⟨⟨u,rfl⟩,jY am a w' u r hP L j⟩) ?_;rintro a' T M' w' fx B r j E ⟨⟨u,rfl⟩,y⟩;refine K' T M' w' fx B ⟨_,E,j,λs F e=>?_,y,AN,λh=>?_⟩
  .have R:z≠s:=λx=>by grind
   exact(et R).trans (hst s F e)
  .simp_all
 .have C:=(hsz _ _ _ hi).2;refine atH hC q.follows Y (q.d _) (q.fn _) A (dR _) H (k:=.R ops (i::rest)::k) (k':=.R ops rest::k) Bo Bo (U:=λs=>∃F,K s=some F) (I:=λa w=>af N K a w/\I am a w) (J:=I (am.setIfInBounds i true)) (λρ a1 bA w1 w2 Z ha h=>⟨gY _ p.ok ρ a1 bA w1 w2 Z ha h.1,hI am ρ a1 bA w1 w2 Z ha h.2⟩) (hI _) ⟨p.now H hst C,hi⟩ (λW hW L_ b cs=>?_) ?_
  .obtain⟨a1,w1,r,j⟩:=L4 rest [i] a W (hstep am a W i o L_.1 L_.2 H.defers hW V kE t L) b k cs;refine⟨a1,w1,?_,j⟩;obtain⟨y,h4,a6⟩:=r;rcases y with⟨d',v,gi,rfl⟩|rfl
   .refine⟨Gm,λs hs=>?_,h4,a6⟩;grind[et]
   .exact⟨H.defers,λ_ _=>rfl,h4,a6⟩
  .intro a' T M' w' j E hu y;refine K' T M' w' c Shun ⟨a',E,j,λs F e=>(hu s ⟨F,e⟩).trans (hst s F e),y,Bl,λh=>pE ?_⟩;simp_all
end
end
section
open bB cv iD
variable{O:gp}
section
variable{P:ck}{Post:fE}{n:Nat}{Shun:uan}{M aD:c5}{w w0:aH}{f:ual}{a b o8:Act}{k:uab}{cs:fA}{N:Nat}{K L K':bZ}{ops:eQ}{S:m3}
def atL{id:Nat}(hC:(cJ P).Good)(sn:P.follows .mixedOrders=true)(hf:jX P f){D:Nat->fN}(hD:J3 P f ops k D)(hk:(Item.inRegion ops []::k).all (fM P)=true)(p:J4 O P N K aD w0 o8)(aB:∀s F,L s=some F->F.ok w0.heap.size)(eJ:Jm ops S=true)(SP:rf L ops.toList=true)(V:rf K ops.toList=true){g:Oper}{d:Nat}{gf:ual}{U:Func}{fJ:Code}{args:uba}{ats:uau}(l:ops[S.g]?=some g)(y:g.op=.call {callee:=.value (.func gf),args,argTypes:=ats})(Z:P.funcs[gf]?=some U)(jV:(U.name== "runtime.NumGoroutine")=false)(hb:U.body=some fJ)(c6:g.guard=none)(gS:∀n,lU.ik (D n) g=true)(hn:n+16*d<=200){gq:Tmp}(C:g.dst=some gq){cp:bg}(hq:sA (aa P true) N w0.heap.size ops S L K cp (λE=>∀a M w,af N E a w->aL (bU M) a.tmps a.tmps->eb O P Post gf (args.map a.eval) M w d (λu _ w'=>cp.R w' u/\cO M w w')) ops.toList 0 (λ_=>none) K K')(hH:hR (D cs.length) a b)(H:Held O P aD w0 w0.heap.size a M w Shun)(Wi:GL K o8 a)(h0:af N L a w)(h_:∀a b M' w' m x,af N K a w'->af N K' a w'->m<=n+16*d->Held O P aD w0 w0.heap.size a M' w' x->hR (D cs.length) a b->GL K o8 a->ca P Post m x 0 (bf ((base f).at b (.R ops []::k)) cs) w'):
 ca P Post n Shun 0 (bf ((base f).at b (.code (.region id ops true)::k)) cs) w:=by
 obtain⟨T,B,A⟩:=B7.all hq;have c:=l3.of (Q:=λ_=>none) eJ SP F1 V;have v:∀(j:Nat) o,ops[j]?=some o->_:=λj o X=>B j o AN;simp only[vby]at v;have SQ:∀j,j<ops.size->(T j).ok w0.heap.size:=λj hj=>by obtain⟨d',-,-,q,-⟩:=v j _ (vak hj);exact q
 obtain⟨apI,t,Y,-,-,R⟩:=v S.g g l;unfold AB at R;unfold qH at t;simp only[c.g.2]at R t;rw[C]at t;cases t;obtain⟨-,iJ,lq⟩:_/\_/\T S.g=cp:=R.resolve_right λh=>absurd rfl h.1;refine atK hC sn hf hD hk p (λi o d B A=>(c.l i o d B A).2.2) S.g l y Z jV hb c6 gS hn (I:=l6 N ops S L (λ_=>none) T) (λam=>Og aB (λ_ _ e=>DG) SQ) C Y (ie:=cp.R) (λam a w h=>⟨h.len,h.size⟩) hH H Wi (l6.start h0 ⟨h0.size,λ_ _ e=>DG⟩) ?_ ?_ ?_ ?_
 .intro am a W i o hKn h hd hW tF kE X r;exact h.step c (λ_ _ e=>DG) v hKn tF hW kE X r
 .intro am a M w Shun J hKn h z r;exact iJ a M w (h.env c hKn l z r) J.all
 .intro am a w u h z r hu;exact h.put c l C c.g.2 Y z (vaa _ _) (by rw[lq];exact hu)
 .intro am a b M' w' m x hKn h hr ll J T6 BA;exact h_ a b M' w' m x hKn (h.dU c hKn hr (λs F e=>.inl e) A) ll J T6 BA
end
end
end bj
namespace lI
open Conc ConcM RowKit av bn cW dv bB cv iD bj
section
variable{O:gp}
def G6(p:Int)(w:aH)(v:Value):Prop:=∃g c cs,v=.S g 0 1 c/\ag w g cs 3/\cs[0]?=some (.I p)
def zv(p:Int):bg:=⟨G6 p,λ_ _ _ hb⟨g,c,cs,e,h1,h2⟩=>⟨g,c,cs,e,h1.call hb,h2⟩,λ_=>True,λn _ ρ w w' v v' hc hv⟨g,c,cs,e,h1,h2⟩=>by
 subst e
 obtain⟨g',rfl,r⟩:=qp hv
 obtain⟨c',k1,-,key⟩:=wX hc r h1
 obtain⟨u,aQ,aT⟩:=key 0 _ h2
 rw[d9 aT]at aQ
 exact⟨g',c,c',U,k1,aQ⟩⟩
def G6.k7{p:Int}{w:aH}{v:Value}(h:G6 p w v):jB w v [p]:=by
 obtain⟨g,c,cs,rfl,b,a⟩:=h;refine⟨_,_,U,Ab,λi hi=>?_⟩;obtain rfl:i=0:=by simpa using hi
 refine⟨g,0,U,?_⟩;simp[q9,b.rules.1,a]
def G7(k:Nat)(p:Int)(w:aH)(u:Value):Prop:=∃a_,u=.tuple #[.N,.I 5,.agg #[.I k,a_]]/\G6 p w a_
def oq{n0:Nat}(k:Nat)(p:Int):my n0 (G7 k p):=by
 rintro ρ w w' v v' a hv ⟨a_,rfl,h⟩;obtain⟨g,rfl,q⟩:=x8 hv;cases q with
 |cons e q=>cases q with
  |cons d q=>cases q with
   |cons c q=>
    cases q;obtain⟨l2,rfl,q⟩:=pF (l:=[.I k,a_]) c;cases q with
    |cons b q=>cases q with
     |cons f q=>cases q;exact⟨_,by rw[gW e,d9 d,d9 b],(zv p).gX n0 trivial _ _ _ _ _ a f h⟩
section
variable{N:Nat}{K:bZ}{o:Oper}{F:bg}{x y:uaq}
def Lt{p:Int}{T T':uaa}(d:o.op=.binOp .neq T x (.const (.N)) T')(f:bq K x (Jn [p]))(g:T=64):bK (aa prog true) N K o (gB true):=λa w hk=>.inl ⟨.T,w,by
 obtain⟨bJ,c,e,-,h⟩:=hk.ev f;obtain⟨b,off,rfl,-⟩:=h 0 Ab;have i:a.eval (.const (.N))=.N:=rfl;generalize a.eval=ev at e i⊢;subst g;cases o;simp only at d;subst d;clear h;simp at e;go_simp,U,vaa _ _⟩
def Yp(a:dC)(w:aH):Sem.run (aa prog true) (callFunc 19 a) w=.ok (.enter 19 a) w:=cN oF AT a w
def Ym{p:Int}{ats:uau}(d:o.op=.call {callee:=.value (.func 19),args:=#[x],argTypes:=ats})(a:bq K x (Jn [p])):bK (aa prog true) N K o (zv p):=
 M3 d Yp a λv w h=>by obtain⟨bJ,c,rfl,-,h⟩:=h;obtain⟨b,off,rfl,f⟩:=h 0 Ab;refine(Tm p b off c w (by simpa[q9]using f)).mono ?_;rintro e w' ⟨g,l,cs,rfl,k,j,i⟩;exact⟨_,U,⟨g,l,cs,U,k,j⟩,i⟩
def Oj(k p:Int):bg:=⟨λw u=>∃v,u=.agg [.I k,v].toArray/\G6 p w v,λ_ _ _ hb⟨v,e,h⟩=>⟨v,e,(zv p).fZ _ _ _ hb h⟩,λ_=>True,λn _ ρ w w' u ij hc hv⟨v,e,h⟩=>by
 subst e
 obtain⟨l',rfl,q⟩:=pF hv
 cases q with
 |cons k1 q=>cases q with
  |cons k2 q=>cases q;exact⟨_,by rw[d9 k1],(zv p).gX n trivial _ _ _ _ _ hc k2 h⟩⟩
def X9{k p:Int}(a:o.op=.build 47 #[(0,x),(1,y)])(e:bq K x (a3 k))(d:bq K y (zv p)):bK (aa prog true) N K o (Oj k p):=wV e d λev w h b=>by have f:ev x=.I k:=h;refine⟨.agg #[ev x,ev y],w,?_,⟨_,by rw[f],b⟩,vaa _ _⟩;obtain⟨g,c,cs,i,-⟩:=b;cases o;simp only at a;subst a;go_simp
end
def X8{o:Oper}{x y:uaq}{k:Int}{c:uad}{n0 cw:Nat}(a:o.op=.store 47 x y)(ev:uaj){w:aH}{b:Nat}(d:ag w b #[.I 0,.N] 47)(f:ev x=.P b 0)(e:ev y=.agg #[.I k,.slice c n0 cw]):(execOp ev o).run (aa prog true) w=.ok .skip ((w.setCell ⟨b,0,none⟩ (.I k)).setCell ⟨b,1,none⟩ (.slice c n0 cw)):=by obtain⟨i,g,h⟩:=d.all;cases o;simp only at a;subst a;go_simp
def X5{n0 N k:Nat}{D:List (List dg)}{W ab p:Int}{a:Act}{w:aH}(hd:a.defers=[])(hn:n0<=w.heap.size)(h:af 57 (be ((29,y7 [p])::(10,a3 k)::l7 n0 N D W ab k)) a w):
 pD (aa prog true) f11 (.R (aP f11 5) (List.range' 5 5)::DI f11) (λv w1=>G7 k p w1 v/\Below n0 w w1) a w:=by
 unfold DI M6;rw[ey (aP f11 5)];refine uI (ks':=[.code .ret,.inBlock 2,.code (.region 10 (aP f11 10) false),.inBlock 1,.code (.region 11 (aP f11 11) false),.inLoop (DH f11),.inBlock 0,.code (Jr f11)]) ?_;refine(show cb _ (.R _ (List.range' 5 (5+0))::_) _ _ _ _ from k_ h (aC U IW<|aC U (NC U U)<|aC U (Ny U U)<|aC U In<|aC U In<|rfl) AX λa1 w1 A d1 b1=>tA (cG (wG (cG ?_))));rw[ey (aP f11 6)];refine f5 A (aC U IW<|aC U (Lt U U U)<|aC U In<|rfl) λQ w2 o E L=>lz (t:=true) (rr o U U) (cG ?_);rw[ey (aP f11 7)];refine ra (show cb _ (.R _ (List.range' 0 (6+1))::_) _ _ _ _ from k_ o (aC U IW<|aC U IW<|aC U (Ym U U)<|aC U (X9 U U U)<|aC U (eD (F:=n_) U IX)<|aC U (eD (F:=a3 5) U IX)<|rfl) AX λI u d C K=>wI ?_);have q:=b1.trans (L.mono b1.size);have B:=q.trans (K.mono q.size);obtain⟨T,m,f,rfl,n,r⟩:=d.has 8 _ U;obtain⟨M,l,v,rfl,J⟩:=d.has 38 _ U;obtain⟨P,O,rfl⟩:=d.has 6 _ U;obtain⟨S,x,rfl⟩:=d.has 7 _ U;obtain⟨g,c,cs,rfl,hg,y⟩:=J;have b:g≠f:=λe=>Fi;refine fP (R:=λa' w'=>a'=I/\w'=(u.setCell ⟨f,0,none⟩ (.I k)).setCell ⟨f,1,none⟩ (.S g 0 1 c)) (sr U U U (X8 U _ r (cd m) (cd l)) ⟨U,U⟩) ?_;rintro _ i ⟨rfl,j⟩;have z:ag i f #[.I k,.S g 0 1 c] 47:=by rw[j];exact(r.set _ _).set _ _
 have s:ag i g cs 3:=by rw[j];exact(hg.fL b _).fL b _
 have H:Below n0 w i:=by rw[j];exact((B.mono hn).setCell n _).setCell n _
 refine nX (i9 (B4 (v:=.tuple #[.N,.I 5,.agg #[.I k,.S g 0 1 c]]) (C.trans (E.trans (d1.trans hd))) ?_ ⟨⟨_,U,g,c,cs,U,s,y⟩,H⟩));obtain⟨c1,cg,du⟩:=z.all;simp[results,results11,go_sem,O,x,m,c1]
def XW{Post:fE}{M:c5}{w:aH}{aZ br:Value}{ns:List sB}{ts:List (List bQ)}{ez:List (List dg)}{W ab p:Int}(f:aL (bU M) #[aZ,br,.agg #[.I W,.I ab]] #[aZ,br,.agg #[.I W,.I ab]])(ht:(cP 1 k9 ts).R w aZ)(d:(cP 7 n9 ns).R w br)(v:ez.length<ns.length)(a5:ns.length<=1000)(t:∀x∈ez,x.length<=300/\Full x)(s:∀(k:Nat) gF x,ns[k]?=some gF->ez[k]?=some x->∀args M w,aL (bU M) args args->af 86 (be [(0,nC gF),(1,cP 1 k9 ts),(2,cP 1 n8 (ez.take k)),(3,kx W ab)]) ⟨args++Array.replicate (86-args.size) undef,[]⟩ w->eb O prog Post 18 args M w 2 (λu _ w'=>(rp x).R w' u/\cO M w w'))(y:∀args M w,aL (bU M) args args->af 86 (be [(0,nC ns[ez.length]),(1,cP 1 k9 ts),(2,cP 1 n8 ez),(3,kx W ab)]) ⟨args++Array.replicate (86-args.size) undef,[]⟩ w->eb O prog Post 18 args M w 2 (λu _ w'=>(y7 [p]).R w' u/\cO M w w')):
 eb O prog Post 11 #[aZ,br,.agg #[.I W,.I ab]] M w (2*ns.length) (λu _ w'=>G7 ez.length p w' u/\cO M w w'):=by
 intro n Shun hn g U aF az aI aK aG csZ A J;obtain⟨bJ,cap,rfl,-,-⟩:=id d;have a:ez.take ez.length=ez:=vcp IB;refine Kf (m:=ez.length) f ht d rfl AY a5 t AY g s λa' M' w' Q X R H hs hI=>?_;refine KD (cp:=y7 [p]) (ez:=ez) rfl ⟨Shun,g⟩ (f.get 0 _ _ rfl rfl) (f.get 1 _ _ rfl rfl) ht d a5 v (by rw[a]) (by rw[a];exact y) AY H hs (by rw[a];exact hI) λV S P q l Z j T h=>?_;rw[a]at h;exact Fl l5 func11 M_ Gg j AT A (I:=af 57 (be ((29,y7 [p])::(10,a3 ez.length)::l7 w.heap.size ns.length ez W ab ez.length))) (gV:=G7 ez.length p) (gY _ (e7 ⟨PA,PA,rfl,rfl,PA,PA,PA,PA⟩)) (oq _ _) h (λY B hI=>X5 j.defers B hI) λu N o F E D C L K=>J u N o q l AY F E D C ⟨K,λb c e z i r=>L b c e z ⟨i,g.lt i⟩ r⟩
end
section
variable{O:gp}
def Kr(k:Nat)(p:Int):bg:=⟨G7 k p,λ_ _ _ hb⟨a_,e,h⟩=>⟨a_,e,(zv p).fZ _ _ _ hb h⟩,λ_=>True,λ_ _=>oq k p⟩
def G8(k:Nat)(p:Int)(w:aH)(u:Value):Prop:=∃a_,u=.tuple #[.agg #[.N],.I 5,.agg #[.I k,a_]]/\G6 p w a_
def XM{n0:Nat}(k:Nat)(p:Int):my n0 (G8 k p):=by
 rintro ρ w w' v v' a hv ⟨a_,rfl,h⟩;obtain⟨g,rfl,q⟩:=x8 hv;cases q with
 |cons e q=>cases q with
  |cons d q=>cases q with
   |cons c q=>
    cases q;obtain⟨l1,rfl,q⟩:=pF (l:=[.N]) e;cases q with
    |cons h0 q=>
     cases q;obtain⟨l2,rfl,q⟩:=pF (l:=[.I k,a_]) c;cases q with
     |cons b q=>cases q with
      |cons f q=>cases q;exact⟨_,by rw[gW h0,d9 d,d9 b],(zv p).gX n0 trivial _ _ _ _ _ a f h⟩
def Em(k:Nat)(p:Int):bg:=⟨G8 k p,λ_ _ _ hb⟨a_,e,h⟩=>⟨a_,e,(zv p).fZ _ _ _ hb h⟩,λ_=>True,λ_ _=>XM k p⟩
def oo:bg:=⟨re (.agg #[.N]),tG.eq _,λ_=>True,λ_ _ _ _ _ _ _ _ hv h=>by
 cases h
 obtain⟨l1,rfl,q⟩:=pF (l:=[.N]) hv
 cases q with
 |cons h0 q=>cases q;rw[gW h0];rfl⟩
section
variable{N:Nat}{K:bZ}{o:Oper}{x y:uaq}{k:Nat}{p:Int}
def XL(a:o.op=.extract x 0)(b:bq K x (Kr k p)):bK (aa prog true) N K o n_:=dy b λev w h=>by obtain⟨v,e,h⟩:=h;refine⟨.N,w,?_,U,vaa _ _⟩;clear h;cases o;simp only at a;subst a;go_simp
def Xz(a:o.op=.extract x 1)(b:bq K x (Kr k p)):bK (aa prog true) N K o (a3 5):=dy b λev w h=>by obtain⟨v,e,h⟩:=h;refine⟨.I 5,w,?_,U,vaa _ _⟩;clear h;cases o;simp only at a;subst a;go_simp
def Xy(a:o.op=.extract x 2)(b:bq K x (Kr k p)):bK (aa prog true) N K o (Oj k p):=dy b λev w h=>by obtain⟨v,e,h⟩:=h;refine⟨.agg #[.I k,v],w,?_,⟨v,U,h⟩,vaa _ _⟩;clear h;cases o;simp only at a;subst a;go_simp
def oi(a:o.op=.extract x 0)(b:bq K x (Em k p)):bK (aa prog true) N K o oo:=dy b λev w h=>by obtain⟨v,e,h⟩:=h;refine⟨.agg #[.N],w,?_,U,vaa _ _⟩;clear h;cases o;simp only at a;subst a;go_simp
def oe(a:o.op=.extract x 1)(b:bq K x (Em k p)):bK (aa prog true) N K o (a3 5):=dy b λev w h=>by obtain⟨v,e,h⟩:=h;refine⟨.I 5,w,?_,U,vaa _ _⟩;clear h;cases o;simp only at a;subst a;go_simp
def od(a:o.op=.extract x 2)(b:bq K x (Em k p)):bK (aa prog true) N K o (Oj k p):=dy b λev w h=>by obtain⟨v,e,h⟩:=h;refine⟨.agg #[.I k,v],w,?_,⟨v,U,h⟩,vaa _ _⟩;clear h;cases o;simp only at a;subst a;go_simp
end
section
variable{o:Oper}{x y:uaq}{ev:uaj}{w:aH}{b:Nat}{cs:dC}
def UU(c:o.op=.store 41 x y)(a:ag w b cs 41)(hs:cs.size=1)(e:ev x=.P b 0)(d:ev y=.agg #[.N]):(execOp ev o).run (aa prog true) w=.ok .skip (w.setCell ⟨b,0,none⟩ (.N))/\ag (w.setCell ⟨b,0,none⟩ (.N)) b #[.N] 41:=by
 obtain⟨q,rfl⟩:∃q,cs=#[q]:=by obtain⟨l⟩:=cs;match l,hs with| [q],_=>grind
 refine⟨?_,a.set 0 _⟩;obtain⟨h,f,g⟩:=a.all;clear a;cases o;simp only at c;subst c;go_simp
def Ok{k:Int}{a:uad}{n0 cw:Nat}(d:o.op=.store 47 x y)(c:ag w b cs 47)(hs:cs.size=2)(f:ev x=.P b 0)(e:ev y=.agg #[.I k,.slice a n0 cw]):(execOp ev o).run (aa prog true) w=.ok .skip ((w.setCell ⟨b,0,none⟩ (.I k)).setCell ⟨b,1,none⟩ (.slice a n0 cw))/\ag ((w.setCell ⟨b,0,none⟩ (.I k)).setCell ⟨b,1,none⟩ (.slice a n0 cw)) b #[.I k,.slice a n0 cw] 47:=by
 obtain⟨q,r,rfl⟩:∃q r,cs=#[q,r]:=by obtain⟨l⟩:=cs;match l,hs with| [q,r],_=>grind
 refine⟨?_,(c.set 0 _).set 1 _⟩;obtain⟨i,g,h⟩:=c.all;clear c;cases o;simp only at d;subst d;go_simp
end
def Xm:∃b o2 a,((aP Tryz.f7 1)[8]?=some b/\b.op=.store 41 (.tmp 8) (.tmp 16)/\b.guard=none/\b.dst=none)/\((aP Tryz.f7 1)[8+1]?=some o2/\o2.op=.assign (.tmp 17)/\o2.guard=none/\o2.dst=some 9)/\(aP Tryz.f7 1)[8+2]?=some a/\a.op=.store 47 (.tmp 10) (.tmp 18)/\a.guard=none/\a.dst=none:=x1
def Xk{fu fv:bg}{W ab k:Nat}{p:Int}(n0:Nat)(a:Act)(w:aH)(hd:a.defers=[])(hn:n0<=w.heap.size)(hk:af 19 (up (be [(8,jL n0 41 1),(10,jL n0 47 2),(11,fu),(12,fv),(13,a3 W),(14,a3 ab)]) 15 (Em k p)) a w):
 pD (aa prog true) Tryz.f7 (.R (aP Tryz.f7 1) (List.range' 5 6)::[.code .ret]) (λv w1=>G8 k p w1 v/\Below n0 w w1) a w:=by
 refine uI (ks':=[.R (aP Tryz.f7 1) (List.range' 8 3),.code .ret]) ?_;obtain⟨o1,o2,o3,⟨B,T,S,Q⟩,⟨E,X,P,O⟩,r1,N,M,F⟩:=Xm;rw[ey (aP Tryz.f7 1)]at B E r1⊢;refine(show cb _ (.R _ (List.range' 5 (3+3))::_) _ _ _ _ from k_ hk (aC rfl (oi rfl rfl)<|aC rfl (oe rfl rfl)<|aC rfl (od rfl rfl)<|rfl) AX λa1 w1 b d1 b1=>i9 (uI (ks':=[.code .ret]) (wI ?_)));obtain⟨cZ,A,h,Y,rfl,y,H,x⟩:=b.has 8 _ rfl;obtain⟨ub,u,f,t,rfl,d,s,r⟩:=b.has 10 _ rfl;obtain⟨v16,q,rfl⟩:=b.has 16 _ rfl;obtain⟨v17,o,rfl⟩:=b.has 17 _ rfl;obtain⟨v18,n,a_,rfl,g,c,cs,rfl,hg,K⟩:=b.has 18 _ rfl;obtain⟨J,z⟩:=UU (ev:=a1.eval) T H x (cd A) (cd q);refine fP (R:=λa' w'=>a1=a'/\w'=w1.setCell ⟨h,0,none⟩ (.N)) (sr B S Q J ⟨rfl,rfl⟩) ?_;rintro _ w2 ⟨rfl,j⟩;rw[<-j]at z;have n1:f≠h:=λe=>Fi;have U:g≠h:=λe=>Fi;have C:g≠f:=λe=>Fi;have m:ag w2 f t 47:=by rw[j];exact s.fL n1 _
 have L:ag w2 g cs 3:=by rw[j];exact hg.fL U _
 refine fP (R:=λa' w'=>a'=a1.put (some 9) (.I 5)/\w2=w') (ip E P O (y_ X (cd o) _) ⟨rfl,rfl⟩) ?_;rintro _ _ ⟨rfl,rfl⟩;have f8:(a1.put (some 9) (.I 5)).tmps[8]?=_:=(et AX).trans A;have f10:(a1.put (some 9) (.I 5)).tmps[10]?=_:=(et AX).trans u;have f18:(a1.put (some 9) (.I 5)).tmps[18]?=_:=(et AX).trans n;have D:(a1.put (some 9) (.I 5)).tmps[9]?=some (.I 5):=ja (by rw[b.size];decide);obtain⟨u1,u2⟩:=Ok (ev:=(a1.put (some 9) (.I 5)).eval) N m r (cd f10) (cd f18);refine fP (R:=λa' w'=>a'=a1.put (some 9) (.I 5)/\w'=(w2.setCell ⟨f,0,none⟩ (.I k)).setCell ⟨f,1,none⟩ (.S g 0 1 c)) (sr r1 M F u1 ⟨rfl,rfl⟩) ?_;rintro _ l ⟨rfl,i⟩;rw[<-i]at u2;have I:ag l h #[.N] 41:=by rw[i];exact(z.fL (Ne.symm n1) _).fL (Ne.symm n1) _
 have Z:ag l g cs 3:=by rw[i];exact(L.fL C _).fL C _
 have V:Below n0 w l:=by rw[i,j];exact(((b1.mono hn).setCell y _).setCell d _).setCell d _
 refine nX (i9 (B4 (v:=.tuple #[.agg #[.N],.I 5,.agg #[.I k,.S g 0 1 c]]) ((put_defers _ _ _).trans (d1.trans hd)) ?_ ⟨⟨_,rfl,g,c,cs,rfl,Z,K⟩,V⟩));clear f18;generalize(a1.put (some 9) (.I 5)).tmps=tm at f8 D f10⊢;simp[results,results7,go_sem,f8,D,f10,I.rules.1,u2.rules.1]
def W_{P:ck}{ops:eQ}{Q:uap}{I:ubl}(hstep:∀am a w i o,I am a w->am.getD i true=false->ops[i]?=some o->(∀e∈o.after,Region.binds .any e=true->am.getD e.on false=true)->o.guard=none/\∃v w',((execOp a.eval o).run P w=.ok (.value v) w'\/((execOp a.eval o).run P w=.ok .skip w'/\v=undef))/\I (am.setIfInBounds i true) (a.put o.dst v) w')(c:∀am a w,I am a w->Region.ready .any ops am=[]->Q .normal a w):∀(fuel:Nat)(am:uaw)(a:Act)(w:aH),am.toList.count false<=fuel->I am a w->wpAny P .any ops Q fuel am a w:=by
 intro fuel;induction fuel with
 |zero=>
  intro am a w j h;have b:Region.ready .any ops am=[]:=by cases b:Region.ready .any ops am with|nil=>rfl|cons x xs=>have k:x∈Region.ready .any ops am:=AN;grind[count_set,mem_ready]
  exact⟨b,c am a w h b⟩
 |succ fuel g=>intro am a w j h;refine⟨λb=>c am a w h b,λi hi=>?_⟩;obtain⟨g1,o,d,f⟩:=mem_ready.1 hi;obtain⟨hg,v,w',hrun,hI⟩:=hstep am a w i o h g1 d f;have:=g _ _ _ (by grind[count_set]) hI;unfold wpOp;simp only[d,tC hg,vbx];refine .inl ?_;unfold Oper.wp;rcases hrun with hrun|⟨hrun,rfl⟩<;>simp only[hrun,Oper.upon]<;>exact this
end
section
variable{O:gp}
section
variable{n0 pY pZ xf g c k:Nat}{cs:dC}{w0:aH}
structure G9(n0 pY pZ xf g c k:Nat)(cs:dC)(w0:aH)(l0 l1 l2 dT hM h9:Bool)(a:Act)(w:aH):Prop where
 ds:a.defers=[]
 size:a.tmps.size=78
 G_:a.tmps[12]?=some (.P pY 0)
 Ha:a.tmps[14]?=some (.P pZ 0)
 Ks:a.tmps[17]?=some (.I 5)
 Kt:a.tmps[20]?=some (.P xf 0)
 Ku:l0=true->a.tmps[61]?=some (.agg #[.N])
 Kv:l1=true->a.tmps[62]?=some (.I 5)
 Kw:l2=true->a.tmps[63]?=some (.agg #[.I k,.S g 0 1 c])
 Kx:hM=true->a.tmps[13]?=some (.I 5)
 m7:∃d,ag w pY d 41/\d.size=1/\(dT=true->d=#[.N])
 m8:∃d,ag w pZ d 47/\d.size=2/\(h9=true->d=#[.I k,.S g 0 1 c])
 m9:ag w xf #[.I k,.S g 0 1 c] 47
 Ky:ag w g cs 3
 Kz:Below n0 w0 w
theorem G9.put{l0 l1 l2 o j n:Bool}{a:Act}{w:aH}(h:G9 n0 pY pZ xf g c k cs w0 l0 l1 l2 o j n a w){s:Nat}{v:Value}(hs:s=61\/s=62\/s=63\/s=13){d m1 i f:Bool}(h0:d=true->(s=61/\v=.agg #[.N])\/(s≠61/\l0=true))(z:m1=true->(s=62/\v=.I 5)\/(s≠62/\l1=true))(y:i=true->(s=63/\v=.agg #[.I k,.S g 0 1 c])\/(s≠63/\l2=true))(x:f=true->(s=13/\v=.I 5)\/(s≠13/\j=true)):G9 n0 pY pZ xf g c k cs w0 d m1 i o f n (a.put (some s) v) w:=by
 have hsz:s<a.tmps.size:=by rw[h.size];omega
 have ne:∀{t:Nat}{u:Value},s≠t->a.tmps[t]?=some u->(a.put (some s) v).tmps[t]?=some u:=λb e=>(et b).trans e;have key:∀{t:Nat}{u:Value}{l m:Bool},(l=true->a.tmps[t]?=some u)->(m=true->(s=t/\v=u)\/(s≠t/\l=true))->m=true->(a.put (some s) v).tmps[t]?=some u:=by
  intro t u l m e q p;rcases q p with⟨rfl,rfl⟩|⟨b,r⟩
  .exact ja hsz
  .exact ne b (e r)
 exact⟨(put_defers _ _ _).trans h.ds,(iz _ _ _).trans h.size,ne AY h.G_,ne AY h.Ha,ne AY h.Ks,ne AY h.Kt,key h.Ku h0,key h.Kv z,key h.Kw y,key h.Kx x,h.m7,h.m8,h.m9,h.Ky,h.Kz⟩
def W4{Q:uak}{ks ks':uab}{a:Act}{w:aH}(n1:pY≠pZ/\pY≠xf/\pY≠g)(m:pZ≠xf/\pZ≠g)(D:n0<=pY)(y:n0<=pZ)(h:G9 n0 pY pZ xf g c k cs w0 false false false false false false a w)(A:∀a w,G9 n0 pY pZ xf g c k cs w0 true true true true true true a w->cb (aa prog true) ks ks' Q a w):cb (aa prog true) (.code (.region 9 (aP Tryz.f8 9) true)::ks) ks' Q a w:=by
 refine aln (wp_region_any AU (W_ (I:=λam a w=>∃l0 l1 l2 j b f:Bool,am=#[l0,l1,l2,j,b,f]/\G9 n0 pY pZ xf g c k cs w0 l0 l1 l2 j b f a w) ?_ ?_ _ _ _ _ Ab ⟨false,false,false,false,false,false,U,h.ds,h.size,h.G_,h.Ha,h.Ks,h.Kt,h.Ku,h.Kv,h.Kw,h.Kx,h.m7,h.m8,h.m9,h.Ky,h.Kz.drew⟩))
 .rintro am a w i o ⟨l0,l1,l2,j,b,f,rfl,h⟩ hi l x;rw[ey (aP Tryz.f8 9)]at l;have C:i<6:=(vag.1 l).1;have E:i=0\/i=1\/i=2\/i=3\/i=4\/i=5:=AY;rcases E with rfl|rfl|rfl|rfl|rfl|rfl<;>(obtain rfl:=vbq l)
  .refine⟨U,.agg #[.N],w,.inl ?_,true,l1,l2,j,b,f,U,h.put Ab Ab Ab Ab Ab⟩;go_simp
  .refine⟨U,.I 5,w,.inl ?_,l0,true,l2,j,b,f,U,h.put Ab Ab Ab Ab Ab⟩;have e:=cd h.Ks;generalize a.eval=ev at e⊢;go_simp
  .refine⟨U,.agg #[.I k,.S g 0 1 c],w,.inl ?_,l0,l1,true,j,b,f,U,h.put Ab Ab Ab Ab Ab⟩;have e:=cd h.Kt;obtain⟨J,F,H⟩:=h.m9.all;clear h;generalize a.eval=ev at e⊢;go_simp
  .obtain rfl:l0=true:=by simpa using x ⟨0,.data⟩ Ab U
   obtain⟨d,v,s,B⟩:=h.m7;have t:=λo(l:o.op=.store 41 (.tmp 12) (.tmp 61))=>UU (ev:=a.eval) (o:=o) l v s (cd h.G_) (cd (h.Ku U));have n:=(t {dst:=none,op:=.store 41 (.tmp 12) (.tmp 61),type:=0,pos:= "",after:=#[],guard:=none} U).2;refine⟨U,undef,_,.inr ⟨(t _ U).1,U⟩,true,l1,l2,true,b,f,U,h.ds,h.size,h.G_,h.Ha,h.Ks,h.Kt,h.Ku,h.Kv,h.Kw,h.Kx,⟨_,n,U,λ_=>U⟩,?_,h.m9.fL (Ne.symm n1.2.1) _,h.Ky.fL (Ne.symm n1.2.2) _,h.Kz.setCell D _⟩;obtain⟨u,r,q,p⟩:=h.m8;exact⟨u,r.fL (Ne.symm n1.1) _,q,p⟩
  .obtain rfl:l1=true:=by simpa using x ⟨1,.data⟩ Ab U
   refine⟨U,.I 5,w,.inl ?_,l0,true,l2,j,true,f,U,h.put Ab Ab Ab Ab Ab⟩;have e:=cd (h.Kv U);generalize a.eval=ev at e⊢;go_simp
  .obtain rfl:l2=true:=by simpa using x ⟨2,.data⟩ Ab U
   obtain⟨d,v,s,B⟩:=h.m8;have t:=λo(l:o.op=.store 47 (.tmp 14) (.tmp 63))=>Ok (ev:=a.eval) (o:=o) l v s (cd h.Ha) (cd (h.Kw U));have n:=(t {dst:=none,op:=.store 47 (.tmp 14) (.tmp 63),type:=0,pos:= "",after:=#[],guard:=none} U).2;refine⟨U,undef,_,.inr ⟨(t _ U).1,U⟩,l0,l1,true,j,b,true,U,h.ds,h.size,h.G_,h.Ha,h.Ks,h.Kt,h.Ku,h.Kv,h.Kw,h.Kx,?_,⟨_,n,U,λ_=>U⟩,(h.m9.fL (Ne.symm m.1) _).fL (Ne.symm m.1) _,(h.Ky.fL (Ne.symm m.2) _).fL (Ne.symm m.2) _,(h.Kz.setCell y _).setCell y _⟩;obtain⟨u,r,q,p⟩:=h.m7;exact⟨u,(r.fL n1.1 _).fL n1.1 _,q,p⟩
 .rintro am a w ⟨l0,l1,l2,j,b,f,rfl,h⟩ z;have hd:=L8 (ops:=aP Tryz.f8 9) AT U z;obtain rfl:l0=true:=by simpa using hd 0 AT
  obtain rfl:l1=true:=by simpa using hd 1 AT
  obtain rfl:l2=true:=by simpa using hd 2 AT
  obtain rfl:j=true:=by simpa using hd 3 AT
  obtain rfl:b=true:=by simpa using hd 4 AT
  obtain rfl:f=true:=by simpa using hd 5 AT
  exact⟨U,A a w h⟩
end
section
variable{fu fv:bg}{nG W ab k:Nat}{l:uah}{p:Int}
def W0(n0:Nat)(a:Act)(w:aH)(hd:a.defers=[])(hn:n0<=w.heap.size)(hk:af 78 (up (be (JV fu fv n0 nG l W ab)) 55 (Kr k p)) a w):
 pD (aa prog true) Tryz.f8 (.R (aP Tryz.f8 7) (List.range' 4 8)::[.code (zl Tryz.f8)]) (λv w1=>G8 k p w1 v/\Below n0 w w1) a w:=by
 refine uI (ks':=[.code .ret,.code (.seq (.region 10 (aP Tryz.f8 10) false) (.seq (.region 11 (aP Tryz.f8 11) false) .ret))]) ?_;obtain⟨o,K,Q,JO,TY⟩:∃o,(aP Tryz.f8 7)[11]?=some o/\o.op=.store 47 (.tmp 20) (.tmp 58)/\o.guard=none/\o.dst=none:=⟨_,rfl,rfl,rfl,rfl⟩;rw[ey (aP Tryz.f8 7)]at K⊢;refine(show cb _ (.R _ (List.range' 4 (4+4))::_) _ _ _ _ from k_ hk (aC rfl IW<|aC rfl (XL rfl rfl)<|aC rfl (Xz rfl rfl)<|aC rfl (Xy rfl rfl)<|rfl) AX λa1 w1 i d1 b1=>wI ?_);obtain⟨v56,TV,rfl⟩:=i.has 56 _ rfl;obtain⟨v57,TW,rfl⟩:=i.has 57 _ rfl;obtain⟨v58,TX,a_,rfl,g,c,cs,rfl,hg,P⟩:=i.has 58 _ rfl;obtain⟨v12,I,pY,adZ,rfl,UV,q,H⟩:=i.has 12 _ rfl;obtain⟨v14,KA,pZ,ad0,rfl,Ol,m,F⟩:=i.has 14 _ rfl;have blt:∀{b d T},ag w1 b d T->b<w1.heap.size:=λh=>(vag.1 h).1;refine fP (R:=λa' w'=>a'=a1.put (some 20) (.P w1.heap.size 0)/\w'=w1.alloc (.cells #[.I 0,.N] 47)) (ip rfl rfl rfl (TQ rfl _ _) ⟨rfl,rfl⟩) ?_;rintro bA w2 ⟨rfl,M⟩;have b2:cC w1 w2:=by rw[M];exact(vaa _ w1).alloc IB _
 have E:ag w2 w1.heap.size #[.I 0,.N] 47:=by rw[M];exact ag.new _ _ _
 refine fP (R:=λa' w'=>a'=(a1.put (some 20) (.P w1.heap.size 0)).put (some 19) (.N)/\w2=w') (ip (v:=.N) rfl rfl rfl (y_ rfl (cd ((et AX).trans TV)) _) ⟨rfl,rfl⟩) ?_;rintro _ _ ⟨rfl,rfl⟩;refine fP (R:=λa' w'=>a'=((a1.put (some 20) (.P w1.heap.size 0)).put (some 19) (.N)).put (some 17) (.I 5)/\w2=w') (ip (v:=.I 5) rfl rfl rfl (y_ rfl (cd ((et AX).trans ((et AX).trans TW))) _) ⟨rfl,rfl⟩) ?_;rintro f _ ⟨j,rfl⟩;have t:∀{s:Nat}{v:Value},s≠20->s≠19->s≠17->a1.tmps[s]?=some v->f.tmps[s]?=some v:=λB A Z e=>by rw[j];exact(et (Ne.symm Z)).trans ((et (Ne.symm A)).trans ((et (Ne.symm B)).trans e))
 have N:f.tmps[20]?=some (.P w1.heap.size 0):=by rw[j];exact(et AX).trans ((et AX).trans (ja (by rw[i.size];decide)))
 have r:f.tmps[17]?=some (.I 5):=by rw[j];exact ja (by rw[iz,iz,i.size];decide)
 have J:f.tmps.size=78:=by rw[j,iz,iz,iz];exact i.size
 have d4:f.defers=[]:=by rw[j,put_defers,put_defers,put_defers];exact d1.trans hd
 obtain⟨u1,u2⟩:=Ok (ev:=f.eval) (w:=w2) Q E rfl (cd N) (cd (t AX AX AX TX));refine fP (R:=λa' w'=>f=a'/\w'=(w2.setCell ⟨w1.heap.size,0,none⟩ (.I k)).setCell ⟨w1.heap.size,1,none⟩ (.S g 0 1 c)) (sr K JO TY u1 ⟨rfl,rfl⟩) ?_;rintro _ z ⟨rfl,L⟩;rw[<-L]at u2;have y:cC w1 z:=by rw[L];exact(b2.setCell IB _).setCell IB _
 refine nX ?_;unfold zl;refine cG (cG ?_);rw[ey (aP Tryz.f8 8)];refine Iw (n:=2) rfl (fP (R:=λa' w'=>a'=f.put (some 59) (.I 5)/\z=w') (ip (v:=.I 5) rfl rfl rfl ?_ ⟨rfl,rfl⟩) ?_)
 .have e:=cd r;generalize f.eval=ev at e⊢;go_simp
 rintro _ _ ⟨rfl,rfl⟩;have D:(f.put (some 59) (.I 5)).tmps[59]?=some (.I 5):=ja (by rw[J];decide);refine fP (R:=λa' w'=>a'=(f.put (some 59) (.I 5)).put (some 60) (.T)/\z=w') (ip (v:=.T) rfl rfl rfl ?_ ⟨rfl,rfl⟩) ?_
 .have e:=cd D;have e0:(f.put (some 59) (.I 5)).eval (.const (.I 0))=.I 0:=rfl;generalize(f.put (some 59) (.I 5)).eval=ev at e e0⊢;go_simp
 rintro Y _ ⟨x,rfl⟩;have u:∀{s:Nat}{v:Value},s≠59->s≠60->f.tmps[s]?=some v->Y.tmps[s]?=some v:=λB A e=>by rw[x];exact(et (Ne.symm A)).trans ((et (Ne.symm B)).trans e)
 refine nX (lz (t:=true) (cd (by rw[x];exact ja (by rw[iz,J];decide))) (cG ?_));have n1:pY≠pZ:=λe=>by subst e;simp_all[ag]
 have fx:pY≠g:=λe=>by subst e;simp_all[ag]
 have V:pZ≠g:=λe=>by subst e;simp_all[ag]
 have O:pY≠w1.heap.size:=Nat.ne_of_lt (blt q);have C:pZ≠w1.heap.size:=Nat.ne_of_lt (blt m);refine W4 (n0:=n0) (cs:=cs) (k:=k) (w0:=w) ⟨n1,O,fx⟩ ⟨C,V⟩ UV Ol ⟨by rw[x,put_defers,put_defers];exact d4,by rw[x,iz,iz];exact J,u AX AX (t AX AX AX I),u AX AX (t AX AX AX KA),u AX AX r,u AX AX N,Ab,Ab,Ab,Ab,⟨_,q.call y,H,Ab⟩,⟨_,m.call y,F,Ab⟩,u2,hg.call y,(b1.mono hn).trans (y.mono (vac hn b1.size))⟩ λU vA h=>i9 ?_;obtain⟨d,c9,-,eB⟩:=h.m7;obtain⟨d',X,-,S⟩:=h.m8;obtain rfl:=eB rfl;obtain rfl:=S rfl;refine B4 (v:=.tuple #[.agg #[.N],.I 5,.agg #[.I k,.S g 0 1 c]]) h.ds ?_ ⟨⟨_,rfl,g,c,cs,rfl,h.Ky,P⟩,h.Kz⟩;have f12:=h.G_;have f13:=h.Kx rfl;have f14:=h.Ha;clear h;generalize U.tmps=tm at f12 f13 f14⊢;simp[results,results8,go_sem,f12,f13,f14,c9.rules.1,X.rules.1]
def awG{Post:fE}{M:c5}{w:aH}{d:Nat}{aZ br:Value}(b:∀n,fu.ok n)(a:∀n,fv.ok n)(o:aL (bU M) #[aZ,br] #[aZ,br])(f:fu.R w aZ)(c:fv.R w br)(m:0<W)(j:W<=16)(i:0<ab)(h:ab<=64)(r:∀w aZ br,fu.R w aZ->fv.R w br->Calls (aa prog true) 10 #[aZ,br] w λe w'=>∃v,e=.returned v/\(AO nG l).R w' v/\cC w w')(q:∀M w aZ br,aL (bU M) #[aZ,br,.agg #[.I W,.I ab]] #[aZ,br,.agg #[.I W,.I ab]]->fu.R w aZ->fv.R w br->eb O prog Post 11 #[aZ,br,.agg #[.I W,.I ab]] M w d (λu _ w'=>G7 k p w' u/\cO M w w')):
 eb O prog Post 7 #[aZ,br,.I W,.I ab] M w d (λu _ w'=>G8 k p w' u/\cO M w w'):=
 x0 (Fr:=Em k p) U b a o f c (λM w aZ br g t n=>yX (cp:=Kr k p) (Fr:=Em k p) U U b a g t n m j i h r q W0) Xk
