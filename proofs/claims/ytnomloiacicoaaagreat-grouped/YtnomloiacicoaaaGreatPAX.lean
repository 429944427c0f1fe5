import Derived.Test.YtnomloiacicoaaaGreatPAV
import Derived.Test.YtnomloiacicoaaaGreatPAW
set_option linter.all false
set_option maxRecDepth 100000
set_option maxHeartbeats 16000000
namespace Go.Proofs.YtnomloiacicoaaaGreat
open Tryz
namespace aV
open Conc ConcM RowKit av bj cV dx bd b_ e9
section
variable{O:gW}
def Wi{P Post}{n:Nat}{Shun M w f a k k' cs}{n0:Nat}{aD w0}(p:(dr P).Good)(o:jQ P f){s s':Nat}{x y}(m:au (b7 M) x x)(l:au (b7 M) y y)(H:Held O P aD w0 n0 a M w Shun)(hk:k.all (fB P)=true)(t:k'.all (fB P)=true){I J}(hI:o9 n0 I)(q:o9 n0 J)(h0:I a w)(hrun:∀W,n0<=W.heap.size->I a W->bI (ae P true) k k' (λa1 w1=>a1.defers=[]/\(a1.tmps[s]?=some x/\a1.tmps[s']?=some y)/\J a1 w1/\Below n0 W w1) a W)(r:∀a' M' w',Held O P aD w0 n0 a' M' w' Shun->(a'.tmps[s]?=some x/\a'.tmps[s']?=some y)->J a' w'->bT P Post n Shun 0 (a4 ((base f).at a' k') cs) w'):
 bT P Post n Shun 0 (a4 ((base f).at a k) cs) w:=by
 refine ab0 p H.fC o H.all H.defers hk t (Q:=λc a1 w1=>(a1.tmps[s]?=some x/\a1.tmps[s']?=some y)/\J a1 w1/\∃T,Below n0 {c with tape:=T} w1) (λc h T b cs=>?_) ?_
 .obtain⟨a1,w1,⟨h1,d,h2,h3⟩,h4⟩:=hrun {c with tape:=T} (by show n0<=c.heap.size;rw[h.size];exact H.size) (hI _ _ _ _ _ (H.fC.my h T) H.all h0) b cs;exact⟨a1,w1,⟨h1,d,h2,T,h3⟩,h4⟩
 .rintro ρ c a1 w1 a' w' h ⟨d,h1,T,h2⟩ h3 h4 g;have key:∀(s:Nat) v,au (b7 M) v v->a1.tmps[s]?=some v->a'.tmps[s]?=some v:=λs v hv e=>by obtain⟨v',j,i⟩:=h3.some e;rw[j,g.same hv i]
  exact r a' (qD ρ) w' (H.next h g h2 (g.all h3) h4) ⟨key _ _ m d.1,key _ _ l d.2⟩ (q _ _ _ _ _ (g.my H.size) h3 h1)
def Wj:gE prog true f18=true:=by decide+kernel
def avy:∃o ats,(az f18 5)[4]?=some o/\o.op=.call {callee:=.value (.func 25),args:=#[.tmp 25,.tmp 26,.tmp 27,.tmp 28],argTypes:=ats}/\o.guard=none/\o.dst=some 29:=⟨_,_,Y,Y,Y,Y⟩
section
variable{Post:hV}{M:dL}{w:aR}{bB:Value}{bY:uag}{cap:Nat}{ns:List vc}{ts:List (List a9)}{f_:List (List cP)}{W af:Int}{cs:hH}
def avz{cW}(hok:cW.ok=λ_=>True)(n:∃Shun,Home O prog M Shun w)(P:au (b7 M) bB bB)(Q:au (b7 M) (.slice bY ns.length cap) (.slice bY ns.length cap))(ht:(fS 1 nU ts).R w bB)(vG:(fS 7 pU ns).R w (.slice bY ns.length cap))(a5:ns.length<=1000){k}(Z:k<ns.length)(xI:(f_.take k).length=k)(hw:∀args M w,aJ (b7 M) args args->ak 86 (bh [(0,rU ns[k]),(1,fS 1 nU ts),(2,fS 1 rT (f_.take k)),(3,mZ W af)]) ⟨args++Array.replicate (86-args.size) undef,[]⟩ w->fZ O prog Post 25 args M w 2 (λu _ w'=>cW.R w' u/\dy M w w')){a' M' w' t V}(oY:t+32<=200)(m:Held O prog M w w.heap.size a' M' w' V)(hs:a'.tmps[0]?=some bB/\a'.tmps[17]?=some (.slice bY ns.length cap))(hI:ak 57 (bh (nV w.heap.size ns.length (f_.take k) W af k)) a' w')(di:∀a r g nE p,nE<=t+32->Held O prog M w w.heap.size a r g p->(a.tmps[0]?=some bB/\a.tmps[17]?=some (.slice bY ns.length cap))->ak 57 (bh ((29,cW)::(10,bG k)::nV w.heap.size ns.length (f_.take k) W af k)) a g->bT prog Post nE p 0 (a4 ((base 18).at a (.R (az f18 5) (List.range' 5 5)::K5 f18)) cs) g):
 bT prog Post t V 0 (a4 ((base 18).at a' (wJ f18)) cs) w':=by
 obtain⟨Shun,n⟩:=n;have T:jQ prog 18:=Bm func18 Wj K6;have S:dy M w w':=λb c e z U hx=>m.keep b c e z ⟨U,n.lt U⟩ hx;have nO:=vaq Z;have sub:∀{M'},(∀b,M b->M' b)->au (b7 M') bB bB/\au (b7 M') (.slice bY ns.length cap) (.slice bY ns.length cap):=λh=>⟨P.mono (tJ h),Q.mono (tJ h)⟩;refine Wi nx T (sub m.sub).1 (sub m.sub).2 m (k':=.R (az f18 5) (List.range' 4 6)::K5 f18) AD AD (s:=0) (s':=17) (I:=ak 57 (bh ((0,fS 1 nU ts)::(17,fS 7 pU ns)::nV w.heap.size ns.length (f_.take k) W af k))) (J:=ak 57 (bh ((27,fS 1 rT (f_.take k))::(25,rU ns[k])::(26,fS 1 nU ts)::(28,mZ W af)::(10,bG k)::nV w.heap.size ns.length (f_.take k) W af k))) (kZ _ (jT ⟨NE,NE,Y,Y,NE,NE,NE,NE⟩)) (kZ _ (jT ⟨NE,NE,NE,NE,NE,Y,Y,NE,NE,NE,NE⟩)) (en hs.1 ((fS 1 nU ts).f7 0 trivial _ _ _ _ _ (S.my n) P ht)<|en hs.2 ((fS 7 pU ns).f7 0 trivial _ _ _ _ _ (S.my n) Q vG) hI) (λW1 hW hI=>?_) λa6 X q j R f=>?_
 .obtain⟨v,aZ,a3⟩:=hI.has 0 _ Y;obtain⟨u,q3,q4⟩:=hI.has 17 _ Y;rw[hs.1]at aZ;rw[hs.2]at q3;cases aZ;cases q3;exact au6 xI a5 Z nO m.defers hW hs.1 hs.2 a3 q4 (hI.aT ⟨Y,Y,Y,Y,Y,NE⟩)
 obtain⟨o,ats,ho,y,c_,iv⟩:=avy;refine ab3 (i:=4) (rest:=List.range' 5 5) (d:=2) y func25 AB Wg AQ T j AD ho c_ ⟨iv,by rw[f.size];decide⟩ (I:=ak 57 (bh ((27,fS 1 rT (f_.take k))::(25,rU ns[k])::(26,fS 1 nU ts)::(28,mZ W af)::(10,bG k)::nV w.heap.size ns.length (f_.take k) W af k))) (J:=λa g=>(a.tmps[0]?=some bB/\a.tmps[17]?=some (.slice bY ns.length cap))/\ak 57 (bh ((29,cW)::(10,bG k)::nV w.heap.size ns.length (f_.take k) W af k)) a g) (iP:=cW.R) (kZ _ (jT ⟨NE,NE,NE,NE,NE,Y,Y,NE,NE,NE,NE⟩)) f (λk'=>?_) (λu g h1 h2=>?_) λa r g nE p avA gK⟨xg,Ab⟩=>?_
 .have f:=kZ (N:=57) (K:=bh ((27,fS 1 rT (f_.take k))::(25,rU ns[k])::(26,fS 1 nU ts)::(28,mZ W af)::(10,bG k)::nV w.heap.size ns.length (f_.take k) W af k)) w.heap.size (jT ⟨NE,NE,NE,NE,NE,Y,Y,NE,NE,NE,NE⟩) _ _ _ _ _ ((show dy X q (q.at k')from λ_ _ _ _ _ x=>x).my j.fC) j.all f;obtain⟨v25,L,D⟩:=f.has 25 _ Y;obtain⟨v26,H,C⟩:=f.has 26 _ Y;obtain⟨v27,F,B⟩:=f.has 27 _ Y;obtain⟨v28,E,A⟩:=f.has 28 _ Y;rw[show(#[Operand.tmp 25,.tmp 26,.tmp 27,.tmp 28].map a6.eval)=#[v25,v26,v27,v28]from by simp[ej L,ej H,ej F,ej E]];exact hw _ X (q.at k') (mw (l:=[v25,v26,v27,v28]) λv hv=>by
   simp only[vaw,vbp,vdf]at hv;rcases hv with rfl|rfl|rfl|rfl
   .exact j.all.get _ _ _ L L
   .exact j.all.get _ _ _ H H
   .exact j.all.get _ _ _ F F
   .exact j.all.get _ _ _ E E) (en (v:=v25) KI D<|en (v:=v26) KI C<|en (v:=v27) KI B<|en (v:=v28) KI A<|wL AS)
 .exact⟨⟨(hQ AF).trans R.1,(hQ AF).trans R.2⟩,(h1.put AF (vaa _ _) h2).aT ⟨Y,Y,Y,Y,Y,Y,Y,NE⟩⟩
 .exact di a r g nE p AQ gK xg Ab
def avF{m n Shun}(r:aJ (b7 M) #[bB,.slice bY ns.length cap,.agg #[.I W,.I af]] #[bB,.slice bY ns.length cap,.agg #[.I W,.I af]])(ht:(fS 1 nU ts).R w bB)(P:(fS 7 pU ns).R w (.slice bY ns.length cap))(hl:f_.length=m)(hm:m<=ns.length)(a5:ns.length<=1000)(o:∀x∈f_,x.length<=300/\Full x)(hn:n+32*m<=200)(D:Home O prog M Shun w)(U:∀(k:Nat) bN x,ns[k]?=some bN->f_[k]?=some x->∀args M w,aJ (b7 M) args args->ak 86 (bh [(0,rU bN),(1,fS 1 nU ts),(2,fS 1 rT (f_.take k)),(3,mZ W af)]) ⟨args++Array.replicate (86-args.size) undef,[]⟩ w->fZ O prog Post 25 args M w 2 (λu _ w'=>(sT x).R w' u/\dy M w w'))(V:∀a' M' w' b c,b<=n+32*m->Held O prog M w w.heap.size a' M' w' c->(a'.tmps[0]?=some bB/\a'.tmps[17]?=some (.slice bY ns.length cap))->ak 57 (bh (nV w.heap.size ns.length f_ W af m)) a' w'->bT prog Post b c 0 (a4 ((base 18).at a' (wJ f18)) cs) w'):
 bT prog Post n Shun 0 (a4 (Frame.enter prog 18 #[bB,.slice bY ns.length cap,.agg #[.I W,.I af]] .normal) cs) w:=by
 have C:jQ prog 18:=Bm func18 Wj K6;rw[vcj func18 K6];have f:=r.get 0 _ _ Y Y;have g:=r.get 1 _ _ Y Y;have loop:∀j k,k+j=m->∀a' M' w' b c,b<=n+32*k->Held O prog M w w.heap.size a' M' w' c->(a'.tmps[0]?=some bB/\a'.tmps[17]?=some (.slice bY ns.length cap))->ak 57 (bh (nV w.heap.size ns.length (f_.take k) W af k)) a' w'->bT prog Post b c 0 (a4 ((base 18).at a' (wJ f18)) cs) w':=by
  intro j;induction j with
  |zero=>intro k hk a' M' w' b c B q hs hI;obtain rfl:k=m:=hk;rw[vbo AQ]at hI;exact V a' M' w' b c B q hs hI
  |succ j R=>intro k hk a' M' w' b c B q hs hI;have y:k<ns.length:=AQ;have A:(f_.take k).length=k:=BA;have T:=vaq (l:=f_) (i:=k) AQ;have d:f_[k]∈f_:=vae _;refine avz (cW:=sT f_[k]) Y ⟨Shun,D⟩ f g ht P a5 y A (U k _ _ (vaq y) T) AQ q hs hI λbK ny w3 nE Fo Z e z Ab=>?_;refine Wi nx C (f.mono (tJ e.sub)) (g.mono (tJ e.sub)) e (k':=wJ f18) AD AD (s:=0) (s':=17) (I:=ak 57 (bh ((29,sT f_[k])::nV w.heap.size ns.length (f_.take k) W af k))) (J:=ak 57 (bh (nV w.heap.size ns.length (f_.take k++[f_[k]]) W af (k+1)))) (kZ _ (jT ⟨NE,Y,Y,NE,NE,NE,NE⟩)) (kZ _ (jT ⟨Y,Y,NE,NE,NE,NE⟩)) (Ab.aT ⟨Y,Y,Y,Y,Y,Y,NE⟩) (λW1 p hI=>au_ A a5 y (o _ d).1 (o _ d).2 (λx h=>(o x (List.mem_of_mem_take h)).2) e.defers p z.1 z.2 hI) λX t K N RQ E=>?_;rw[List.take_append_getElem AQ]at E;exact R (k+1) AQ X t K nE Fo AQ N RQ E
 have H:=Held.start (n0:=w.heap.size) D JR (a:=⟨#[bB,.slice bY ns.length cap,.agg #[.I W,.I af]]++Array.replicate 54 undef,[]⟩) (r.append (Fg _ _)) Y;exact Wi nx C f g H (k':=wJ f18) AD AD (s:=0) (s':=17) (I:=ak 57 (bh [(2,mZ W af),(3,mT)])) (J:=ak 57 (bh (nV w.heap.size ns.length [] W af 0))) (kZ _ (jT ⟨NE,NE,NE⟩)) (kZ _ (jT ⟨Y,Y,NE,NE,NE,NE⟩)) (en (v:=.agg #[.I W,.I af]) KI Y<|en (v:=undef) AS Y<|wL AS) (λW1 p hI=>au5 a5 Y p (en (v:=bB) KI Y<|en (v:=.slice bY ns.length cap) KI Y hI)) λa6 M2 L S Q F=>loop m 0 (vbs _) a6 M2 L n Shun JR S Q F
end
def avG{Post M w bB a ns ts}{f_:List (List cP)}{rs W af}(t:aJ (b7 M) #[bB,a,.agg #[.I W,.I af]] #[bB,a,.agg #[.I W,.I af]])(ht:(fS 1 nU ts).R w bB)(d:(fS 7 pU ns).R w a)(f:f_.length=ns.length)(h0:0<ns.length)(a5:ns.length<=1000)(q:∀x∈f_,x.length<=300/\Full x)(C:f_[ns.length-1]?=some rs)(p:∀(k:Nat) bN x,ns[k]?=some bN->f_[k]?=some x->∀args M w,aJ (b7 M) args args->ak 86 (bh [(0,rU bN),(1,fS 1 nU ts),(2,fS 1 rT (f_.take k)),(3,mZ W af)]) ⟨args++Array.replicate (86-args.size) undef,[]⟩ w->fZ O prog Post 25 args M w 2 (λu _ w'=>(sT x).R w' u/\dy M w w')):
 fZ O prog Post 18 #[bB,a,.agg #[.I W,.I af]] M w (2*ns.length) (λu _ w'=>HZ rs w' u/\dy M w w'):=by
 intro n Shun hn i E aI aC aL aO aK csZ r v;obtain⟨bY,cap,rfl,-,-⟩:=id d;refine avF t ht d f JR a5 q AQ i p λa' M' w' m y D h hs hI=>?_;refine Kp nx func18 Wj K6 h AD r (I:=ak 57 (bh (nV w.heap.size ns.length f_ W af ns.length))) (iC:=HZ rs) (kZ _ (jT ⟨Y,Y,NE,NE,NE,NE⟩)) (RO _) hI (λF s hI=>avo f h0 a5 C h.defers s hI) λu l j h1 h2 h3 h4 B A=>v u l j m y AQ h1 h2 h3 h4 ⟨A,λb c e z g o=>B b c e z ⟨g,i.lt g⟩ o⟩
end
end aV
namespace b_
open RowKit av aV
variable{bZ ka:uag}
section
attribute [local go_sem ↓] Go.wp_at_zero Go.wp_at_succ
def yd:List ng:=[⟨1,0,0,[],[],[],[]⟩,Na]
structure BN(w:aR)(dC no:Nat)(ka bZ:uag)(cg gc:Nat):Prop where
 n0:Ac w dC no 1 0 none 0 0 none 0 0
 n1:Ac w dC (no+7) 5 0 ka 1 cg bZ 5 gc
 iT:h5 w (.slice ka 1 cg) [0]
 e5:M0 w (.slice bZ 5 gc) jN
def BN.keeps{w w' a no b gc}(h:BN w a no ka bZ b gc)(hk:bp w w'):BN w' a no ka bZ b gc:=⟨H4 h.n0 hk,H4 h.n1 hk,bo.mono q8 hk h.iT,bo.mono nf hk h.e5⟩
def avY{w a no k j gc}(h:BN w a no ka bZ j gc):SC w (.S a no 2 k) yd:=by
 refine⟨_,_,Y,by simp[yd],λi hi=>⟨a,no,Y,?_⟩⟩;obtain rfl|rfl:i=0\/i=1:=by grind[yd]
 .obtain⟨g,d1,f,e,d,c,b⟩:=Fp h.n0;exact⟨_,_,_,_,by grind[yd],by grind[yd],by grind[yd],AA,AA,AA,AA,⟨bo.nil _ _ _,bo.nil _ _ _,bo.nil _ _ _,bo.nil _ _ _⟩⟩
 .obtain⟨g,d1,f,e,d,c,b⟩:=Fp h.n1;exact⟨_,_,_,_,g,d1,f,e,d,c,b,⟨bo.nil _ _ _,h.iT,bo.nil _ _ _,h.e5⟩⟩
def avZ b a_ k m h no p ka bZ n gc w(V:CB w (.S a_ k 1 m) [b])(AM:nh b=true)(S:BN w h no ka bZ n gc)(T:q_ b=GF):
 Calls vfc 17 #[.S a_ k 1 m,.S h no 2 p] w λe w'=>∃g c v,e=.returned (.tuple #[.S g 0 2 c,.I 0,.I 0])/\w'.cell? (.a g 1)=some v/\hJ w' v mF/\c6 w w':=by
 have ni:b.length<=8:=by simp_all[nh]
 have hok:told (CG (yF [b]) [b].length)=(0,false):=by
  rw[ZW (λj hj=>by
   grind[yF])]
  rfl
 have J:Hid (CB w (.S a_ k 1 m) [b]):=V;have F:Hid (BN w h no ka bZ n gc):=S;have ea:Hid _:=T;clear S V AM T;go_enter (vez func17),ntmps17
 go_wp2_with fail
 refine(amy [b] _ _ J.out).mono ?_;rintro e w1 ⟨rfl,M⟩;rw[hok];have U:Hid (c6 w w1):=M;have E:=bp.cy M;have A:Hid (Own w1 (w1.alloc (.cells #[.S a_ k 1 m,.S h no 2 p,.N,.N] 84)) w1.heap.size (.S a_ k 1 m) (.S h no 2 p) (.N) (.N) [b] yd [] [] []):=
  ⟨(vaa _ _).alloc JR _,bo.mono MZ E J.out,bo.mono SB E (avY F.out),vac _,ag.new _ _ _,vcg _ _ _ _,vcg _ _ _ _,AS,AS,AA⟩
 have o:Hid (BN w1 h no ka bZ n gc):=F.out.keeps E;clear M E J F;go_wp2_with fail
 go_loopw [27] (λx W=>∃(i:Nat)(C L:Value)(vals:uai),i<=2/\x=.I (i:Int)/\Own w1 W w1.heap.size (.S a_ k 1 m) (.S h no 2 p) C L [b] yd ([q_ b,mF].take i) (vh i) vals) (λx _=>2-(intOf x).toNat)
 case atStart=>exact⟨0,_,_,_,vax _,Y,A.out⟩
 case round=>
  clear A;obtain⟨i,C,L,vals,hi,rfl,K⟩:=hrel;have d:Hid (Own w1 wr w1.heap.size (.S a_ k 1 m) (.S h no 2 p) C L [b] yd ([q_ b,mF].take i) (vh i) vals):=K;have I:=K.box.rules.1;clear K;by_cases f:i<2
  .have li:(i:Int)<(2:Int):=by omega
   have z:Calls vfc 23 #[.P w1.heap.size 0,.I i] wr λe w'=>e=.returned (.I 0)/\∃Pk Z X,Own w1 w' w1.heap.size (.S a_ k 1 m) (.S h no 2 p) Pk Z [b] yd ([q_ b,mF].take (i+1)) (vh (i+1)) X:=by
    obtain rfl|rfl:i=0\/i=1:=AQ
    .refine(TH (i:=0) (l:=q_ b) (ch:=[]) d.out f AQ (by simp[vh]) (by simpa using o.out.n0) AS AS (TI 0 f _ _ _ _ _ _ _ _ _ no _ _ (by rw[I];rfl) (H4 (by simpa using o.out.n0) (bp.cy d.out.below)) (λw' a=>avJ _ _ _ w' (a _ _ (by rw[I];rfl))) avH) (λw' a=>?_) avM).mono ?_
     .exact amW w1.heap.size 0 0 _ [b] none none none none 0 0 0 0 0 0 0 0 w' (by rw[a.box.rules.1];rfl) (bo.mono MZ (bp.cy a.below) a.AX) AS ni
     simp_all[vh,mj]
    .obtain⟨g,c,rfl,D,H,B,-,Q⟩:=TR d.out (by simp[vh]);refine(TH (i:=1) (l:=mF) (ch:=[0]) d.out f AQ (by simp[vh]) (by simpa using o.out.n1) (λy hy=>?_) AS (TI 1 f _ _ _ _ _ _ _ _ _ no _ _ B (H4 (by simpa using o.out.n1) (bp.cy d.out.below)) (λw' a=>avL _ g c _ n _ gc w' (a _ _ (by grind[vh])) (a _ _ (D 0 false Y))) (avI _ n _ gc)) (λw' a=>?_) (avN _ n _ gc)).mono ?_
     .simp_all[vh]
     .have u:=bp.cy a.below;exact amY w1.heap.size ka bZ n gc C [q_ b] w' (bo.mono q8 u o.out.iT) (bo.mono nf u o.out.e5) (by rw[a.box.rules.1];rfl) a.am0.types AS ea.out
     simp_all[vh,mj]
   have t:Hid _:=z;clear z I;go_wp2_with fail
   refine vdm t.out ?_;rintro e w2 ⟨rfl,Pk,Z,X,h2⟩;have iD:Hid _:=h2;clear h2 d t;go_wp2_with fail
   go_roundw
   case rel=>exact⟨i+1,_,_,_,AQ,AS,iD.out⟩
   case measure=>simp[intOf];omega
  .obtain rfl:i=2:=by omega
   obtain⟨g,c,rfl,D,H,B,-,Q⟩:=TR d.out (by simp[vh]);obtain⟨s,r,rfl,-,-⟩:=World.ownsRow.form d.out.sr AS;obtain⟨v2,R,q,-⟩:=d.out.each 1 AS;have P:Hid _:=CD d.out.sr 1 v2 R;have O:Hid (hJ wr v2 mF):=q;have N:Hid _:=avW _ g c _ _ _ B (by grind[vh]) (D 0 true Y);simp only[vdj,ves,vdg,List.length_nil,vbs,Nat.reduceAdd]at Q H;clear D B H R q;go_wp2_with fail
   refine vdm N.out ?_;rintro e w2 ⟨rfl,rfl⟩;go_wp2_with fail
   refine vav (v:=.tuple #[.S s 0 2 r,.I 0,.I 0]) (by simp[results,results17,go_sem]) Y ⟨s,r,v2,Y,P.out,?_,Below.step d.out.below U.out U.out.size⟩;exact O.out
end
end b_
namespace bd
open Conc ConcM RowKit av b_ bj ah eK hO fH iu dx
def aBN:vfd.funcs[(216:Nat)]?=some f216:=vfa func216
def aBO:gE prog false f216=true:=by decide+kernel
def aBP:gE prog false f218=true:=by decide+kernel
structure wY(w:aR)(gs:List cY)(aF:g7)(iG:ubw)(aU bA g:Nat):Prop where
 e5:vo w aU bA aF
 dF:∀p∈gs,B4 w p aF
 Mb:∀t(h:t<gs.length) j,j<18->w.cell? (.a g (t*18+j))=(eY gs[t])[j]?
 place:∀t(h:t<gs.length),w.cell? (.a (gs[t].1.c5) (gs[t].1.pa))=some (.I (iG t))
structure Q4(a8:dL)(gs:List cY)(kb aU g:Nat):Prop where
 kb:a8 kb
 aU:a8 aU
 g:a8 g
 gF:∀p∈gs,a8 p.2.1
 c5:∀p∈gs,a8 p.1.c5
def XI(a8:dL)(v:Value):Prop:=B5 v=true\/(∃l c,v=.slice none l c)\/∃b o l c,v=.S b o l c/\a8 b
theorem te{a8 ρ}(hK:∀b,a8 b->ρ.rel b b)(h1:∀a b d,ρ.rel a b->ρ.rel a d->b=d){v v'}(h:au ρ v v')(hv:XI a8 v):v'=v:=by
 rcases hv with hv|⟨l,c,rfl⟩|⟨b,o,l,c,rfl,g⟩
 .exact IF h hv
 .cases h;rfl
 .cases h with|slice _ _ r=>rename_i a';obtain⟨ab,bY,i⟩:=a';obtain⟨r1,f,e⟩:=r;grind
theorem wY.carry{a8 ρ w w' gs aF iG kb aU bA g}(hK:∀b,a8 b->ρ.rel b b)(h1:∀a b n,ρ.rel a b->ρ.rel a n->b=n)(r:Carry ρ w w')(k:Q4 a8 gs kb aU g)(h:wY w gs aF iG aU bA g):wY w' gs aF iG aU bA g:=by
 have c:∀(b d:Nat)(v:Value),a8 b->XI a8 v->w.cell? (.a b d)=some v->w'.cell? (.a b d)=some v:=λb d v s hv q=>by obtain⟨v',aZ,a3⟩:=r ⟨b,d,none⟩ ⟨b,d,none⟩ v ⟨hK b s,Y,Y⟩ q;grind[te]
 refine⟨λi hi=>⟨c _ _ _ k.aU Jv (h.e5 i hi).1,c _ _ _ k.aU Jv (h.e5 i hi).2⟩,λp f=>⟨(h.dF p f).l8,(h.dF p f).wide,(h.dF p f).fit,λi hi j l=>?_⟩,λt ht j l=>?_,λt ht=>c _ _ _ (k.c5 _ (vae ht)) Jv (h.place t ht)⟩
 .have e:=vas (show j<(ft p.1.c9[i]).size from l);rw[e];exact c _ _ _ (k.gF p f) (.inl (uo _ _ (by rw[Array.mem_toList_iff];exact Array.getElem_mem _))) (((h.dF p f).i_ i hi j l).trans e)
 .have m:=vae ht;by_cases h0:j=0
  .subst h0;exact c _ _ _ k.g (.inr (.inr ⟨_,_,_,_,Y,k.c5 _ m⟩)) (h.Mb t ht 0 AF)
  by_cases o:j=17
  .subst o;exact c _ _ _ k.g (.inr (.inr ⟨_,_,_,_,Y,k.gF _ m⟩)) (h.Mb t ht 17 AF)
  obtain⟨v,e1,-,e3⟩:=tT (yk gs[t].1) (p5 gs[t].2.1 gs[t].2.2) (p5 gs[t].2.1 gs[t].2.2) gs[t].1.key j l h0 o;exact(c _ _ _ k.g (.inl e3) ((h.Mb t ht j l).trans e1)).trans e1.symm
theorem wY.keeps{w w' gs aF iG aU bA g}(hk:bp w w')(h:wY w gs aF iG aU bA g):wY w' gs aF iG aU bA g:=by refine⟨λi hi=>⟨hk _ _ _ (h.e5 i hi).1,hk _ _ _ (h.e5 i hi).2⟩,λp c=>(h.dF p c).keeps hk,λt ht j b=>?_,λt ht=>hk _ _ _ (h.place t ht)⟩;obtain⟨u,a⟩:=sk gs[t] b;rw[a];exact hk _ _ _ ((h.Mb t ht j b).trans a)
def FT(bN:pb)(gs:List cY)(aF:g7)(iG:ubw)(cap aU bA g fr cZ:Nat)(w:aR)(u:Value):Prop:=∃j1 jo ym,u=.func (.func 218) #[] #[.P j1 0,.P jo 0,.P ym 0]/\(∀j,j<8->w.cell? (.a j1 j)=(k7 bN (.S g 0 gs.length cap))[j]?)/\w.cell? (.a jo 0)=some (.I fr)/\w.cell? (.a ym 0)=some (.I cZ)/\wY w gs aF iG aU bA g
def aBQ{a8 op a kb cL kl kc aU bA gc g n cap}(d:a8 kb)(c:a8 aU)(b:a8 g):∀j,j<8->∃v,(k7 (gy op a kb cL kl kc aU bA gc) (.S g 0 n cap))[j]?=some v/\XI a8 v
 |0,_=>⟨_,Y,.inl Y⟩
 |1,_=>⟨_,Y,.inl Y⟩
 |2,_=>⟨_,Y,.inl Y⟩
 |3,_=>⟨_,Y,.inr (.inl ⟨_,_,Y⟩)⟩
 |4,_=>⟨_,Y,.inr (.inr ⟨_,_,_,_,Y,d⟩)⟩
 |5,_=>⟨_,Y,.inr (.inl ⟨_,_,Y⟩)⟩
 |6,_=>⟨_,Y,.inr (.inr ⟨_,_,_,_,Y,c⟩)⟩
 |7,_=>⟨_,Y,.inr (.inr ⟨_,_,_,_,Y,b⟩)⟩
 |n+8,h=>absurd h AQ
section
variable{op a:Int}{gs:List cY}{aF:g7}{iG:ubw}{kb cL kc aU bA gc cap g fr cZ:Nat}
def aBR{a8}(k:Q4 a8 gs kb aU g):N1 a8 (FT (gy op a kb cL 1 kc aU bA gc) gs aF iG cap aU bA g fr cZ):=by rintro ρ w w' u q hK h1 b l ⟨i,p,o,rfl,h2,h3,h4,m⟩;obtain⟨c1,bt,cF,rfl,r1,h,f⟩:=abA l;obtain⟨s,e,e2⟩:=b _ _ _ h h3;obtain⟨r,d,e3⟩:=b _ _ _ f h4;rw[e2.uM]at e;rw[e3.uM]at d;refine⟨c1,bt,cF,Y,λj c=>?_,e,d,m.carry hK h1 b k⟩;obtain⟨v,aZ,a3⟩:=aBQ (op:=op) (a:=a) (cL:=cL) (kl:=1) (kc:=kc) (bA:=bA) (gc:=gc) (n:=gs.length) (cap:=cap) k.kb k.aU k.g j c;obtain⟨v',q3,q4⟩:=b ⟨i,j,none⟩ ⟨c1,j,none⟩ v ⟨r1.1,Y,Y⟩ ((h2 j c).trans aZ);grind[te]
def aBS w(h:wY w gs aF iG aU bA g):
 Calls vfd 216 #[fI (gy op a kb cL 1 kc aU bA gc) (.S g 0 gs.length cap),.I (fr:Int),.I (cZ:Int)] w λe w'=>∃u,e=.returned u/\FT (gy op a kb cL 1 kc aU bA gc) gs aF iG cap aU bA g fr cZ w' u:=by
 have f:Hid (wY w gs aF iG aU bA g):=h;clear h;go_enter aBN,ntmps216
 go_wp2
 go_ret
 have b1:=((ag.new w (k7 (gy op a kb cL 1 kc aU bA gc) (.S g 0 gs.length cap)) 156).alloc (.cells #[.I (fr:Int)] 3)).alloc (.cells #[.I (cZ:Int)] 3);have c:=(ag.new (w.alloc (.cells (k7 (gy op a kb cL 1 kc aU bA gc) (.S g 0 gs.length cap)) 156)) #[.I (fr:Int)] 3).alloc (.cells #[.I (cZ:Int)] 3);have b:=ag.new ((w.alloc (.cells (k7 (gy op a kb cL 1 kc aU bA gc) (.S g 0 gs.length cap)) 156)).alloc (.cells #[.I (fr:Int)] 3)) #[.I (cZ:Int)] 3;simp only[ved]at c b;have d:bp w (((w.alloc (.cells (k7 (gy op a kb cL 1 kc aU bA gc) (.S g 0 gs.length cap)) 156)).alloc (.cells #[.I (fr:Int)] 3)).alloc (.cells #[.I (cZ:Int)] 3)):=bp.cy ((((vaa _ w).alloc JR _).alloc AS _).alloc BA _);exact⟨_,Y,w.heap.size,w.heap.size+1,w.heap.size+1+1,Y,λj _=>b1.rules.1 j,c.rules.1 0,b.rules.1 0,f.out.keeps d⟩
end
def aBT n₀ ds aF fr:JH n₀ (uF n₀ ds aF fr):=by
 refine⟨λt W x h=>?_,λt W d x h hk=>?_⟩
 .obtain⟨bv,aW,rfl,-⟩:=h;grind
 .obtain⟨bv,aW,rfl,h1,h2⟩:=h;refine⟨bv,aW,Y,h1,?_⟩;rcases h2 with h2|⟨g,cap,bq,a1,c,b,a⟩
  .grind
  .exact .inr ⟨g,cap,bq,a1,c,hk _ _ _ _ b AA,a⟩
theorem tc:∀l,(m5 l).length=l.length*4
 | []=>rfl
 |d::l=>by rw[m5,vcl,tc l];simp;omega
theorem s4:∀l i(h:i<l.length)j,j<4->(m5 l)[i*4+j]?=(wX l[i])[j]?
 |d::l,0,h,j,a=>by rw[m5,Nat.zero_mul,vbs,veu a];simp
 |d::l,i+1,h,j,a=>by rw[m5,List.getElem?_append_right AA,show(i+1)*4+j-(wX d).length=i*4+j by grind];exact s4 l i Dt j a
def s6(ds:Nat->aG)(aF:g7)(iG:ubw)(i:Nat):cP:=([iG i],jX (ds i) aF)
section
variable{op a:Int}{gs:List cY}{ds:Nat->aG}{aF:g7}{iG:ubw}{kb cL kc aU bA gc cap g:Nat}
def aBU{fr cZ}(f:∀i(h:i<gs.length),gs[i].1=ds i)(m:aF.length=5)(r:fr<cZ)(F:cZ<=gs.length)(hlen:gs.length<=300)(o:gs.length<=cap)(htx:∀i,i<gs.length->∀v∈jX (ds i) aF,v.text.size<=9223372036854775807)w u(h:FT (gy op a kb cL 1 kc aU bA gc) gs aF iG cap aU bA g fr cZ w u):
 Calls vfd 110 #[u] w λe w'=>∃v,e=.returned v/\ko w' v (aV.cut (s6 ds aF iG) fr cZ):=by
 obtain⟨x,t,n,rfl,h1,h2,h3,h4⟩:=h;refine(aBy (N:=cZ-fr) AQ w (aBT w.heap.size ds aF fr) (λargs w=>cR uH aBP args w) (aBu op a kb cL kc aU bA gc g cap gs ds f aF m fr cZ r F AQ o w x t n h1 h2 h3 h4.e5 h4.dF h4.Mb)).mono ?_;rintro e w' ⟨v,rfl,A,C⟩;refine⟨v,Y,Uf A _ (by rw[aV.z5]) AQ λj B p q y=>?_⟩;obtain⟨bv,aW,e1,z⟩:=y;simp only[Value.agg.injEq,Array.mk.injEq,List.cons.injEq,and_true]at e1;obtain⟨rfl,rfl⟩:=e1;rw[aV.z5]at B;have b:fr+j<gs.length:=AQ;have E:(aV.cut (s6 ds aF iG) fr cZ)[j]=s6 ds aF iG (fr+j):=by simp[aV.cut]
 rw[E];have s:=bp.cy C _ _ _ (h4.place (fr+j) b);rw[f _ b]at s;have l:=QV (d:=ds (fr+j)) m (f _ b▸(h4.dF _ (vae b)).l8);refine⟨⟨_,_,Y,by simp[s6],λi hi=>⟨_,_,Y,?_⟩⟩,⟨some ⟨bv,0,none⟩,aW,by rw[s6,l],by simp[s6,l],λi hi=>⟨bv,0,Y,?_⟩⟩⟩
 .grind[s6,sg]
 .have D:i<(jX (ds (fr+j)) aF).length:=hi;have c:=λ(k:Nat)(hk:k<4)=>(QO z (i*4+k) (by rw[tc];omega)).trans (s4 _ i D k hk);have b3:=c 0 AF;have c1:=c 1 AF;have bt:=c 2 AF;have cF:=c 3 AF;simp only[vcc,vds,vdt]at b3 c1 bt cF;simp only[Nh,vbs,vcc,s6];grind
def aBV{Stop c cH a8}(y:∀b,a8 b->c.K b)(hg:∀g,g<=prog.globals.size->a8 g)(o:fG (da prog false) (λb=>a8 b\/bL b) bL cH){p fr cZ}(z:∀i(h:i<gs.length),gs[i].1=ds i)(J:aF.length=5)(hlen:gs.length<=300)(t:gs.length<=cap)(htx:∀i,i<gs.length->∀v∈jX (ds i) aF,v.text.size<=9223372036854775807)(hin:wY cH gs aF iG aU bA g)(k:Q4 a8 gs kb aU g)(hinv:∀(args:dX)(w:aR),(callMethod p "Piece" args).run prog w=.ok (.enter 216 (#[fI (gy op a kb cL 1 kc aU bA gc) (.S g 0 gs.length cap)]++args)) w/\(callMethod p "Piece" args).events prog w #[]=#[])(x:∀T,T<c.N->fr T<cZ T/\cZ T<=gs.length)(mf:∀T,c.cq T=false)(ss:∀T,T<c.N->c.rows T=cZ T-fr T):
 uK c cH prog Stop 110 p 216 (fI (gy op a kb cL 1 kc aU bA gc) (.S g 0 gs.length cap)) fr cZ
  (λT u M w=>o6 (da prog false) a8 c.K (FT (gy op a kb cL 1 kc aU bA gc) gs aF iG cap aU bA g (fr T) (cZ T)) u M w) (λT v M w=>o6 (da prog false) a8 c.K (λw v=>T<c.N/\ko w v (aV.cut (s6 ds aF iG) (fr T) (cZ T))) v M w):=by
 have n:∀{D:dL},(∀b,a8 b->D b)->(∀b,a8 b->(dp D bL).rel b b)/\∀a b q,(dp D bL).rel a b->(dp D bL).rel a q->b=q:=λh=>⟨λb d=>⟨Y,h b d⟩,λa b q h1 h2=>h1.1.symm.trans h2.1⟩;refine abx uL Y func216 aBO Y AD func110 Yo Y AD y hg o hinv (.qT (mw λv l=>?_))
  (uN:=λT=>FT (gy op a kb cL 1 kc aU bA gc) gs aF iG cap aU bA g (fr T) (cZ T)) (uO:=λT w v=>T<c.N/\ko w v (aV.cut (s6 ds aF iG) (fr T) (cZ T))) (λT=>aBR k) (λT _ _ _ _ _ H hv h=>⟨h.1,abB _ _ _ _ _ _ H hv h.2⟩) (λT m w r j K f=>?_)
  mf (λT m j u l f=>?_) (λT w v h=>?_)
 .simp at l;rcases l with rfl|rfl|rfl|rfl|rfl|rfl|rfl|rfl
  .exact .int _ _
  .exact .int _ _
  .exact .int _ _
  .exact .iH _ _
  .exact .slice _ _ ⟨⟨Y,.inl k.kb⟩,Y,Y⟩
  .exact .iH _ _
  .exact .slice _ _ ⟨⟨Y,.inl k.aU⟩,Y,Y⟩
  .exact .slice _ _ ⟨⟨Y,.inl k.g⟩,Y,Y⟩
 .have F:=hin.carry (n λb d=>.inl d).1 (n λb d=>.inl d).2 (sF r o) k;have E:=F.carry (n λb d=>.inl d).1 (n λb d=>.inl d).2 (K.carry (pE o r)) k;exact aBS {j with tape:=f} (E.keeps (zi j f))
 .have B:FT (gy op a kb cL 1 kc aU bA gc) gs aF iG cap aU bA g (fr T) (cZ T) {j with tape:=f} u:=by obtain⟨C,A,s,e,h1,h2,h3,h4⟩:=l;exact⟨C,A,s,e,h1,h2,h3,h4.keeps (zi j f)⟩
  obtain⟨f1,I⟩:=x T m;exact(aBU z J f1 I hlen t htx _ _ B).mono λe w'⟨v,e1,e2⟩=>⟨v,e1,m,e2⟩
 .obtain⟨m,bY,cap,rfl,-,-⟩:=h;simp_all[aV.z5]
end
end bd
namespace bd
open Conc ConcM RowKit av bj ah eK hO fH iu cV oB dx
def nC(ds:List aG)(ew:dL)(w:aR)(u:Value):Prop:=∃gs,gs.map Prod.fst=ds/\nB w u gs/\r7 w gs ew
def jj(D:Nat->List aG):Nat->List aG
 |0=>[]
 |k+1=>jj D k++D k
variable{ps:Nat->List cY}{N:Nat}
theorem sP{D}(h:∀p,p<N->(ps p).map Prod.fst=D p):∀k,k<=N->(eL ps k).map Prod.fst=jj D k
 |0,_=>rfl
 |k+1,hk=>by rw[eL,vda,sP h k AQ,h k AQ,jj]
theorem XK:∀{k:Nat}{x:cY},x∈eL ps k->∃p,p<k/\x∈ps p
 |0,x,h=>I5
 |k+1,x,h=>by
  rcases vcz.1 h with h|h
  .obtain⟨p,b,a⟩:=XK h;exact⟨p,AQ,a⟩
  .exact⟨k,AQ,h⟩
theorem XL{D}:∀{k:Nat}{x:aG},x∈jj D k->∃p,p<k/\x∈D p
 |0,x,h=>I5
 |k+1,x,h=>by
  rcases vcz.1 h with h|h
  .obtain⟨p,b,a⟩:=XL h;exact⟨p,AQ,a⟩
  .exact⟨k,AQ,h⟩
variable{w w':aR}
theorem nB.at{v gs}(h:nB w v gs)(a:∀g n c,v=.S g 0 n c->w'.heap[g]?=w.heap[g]?):nB w' v gs:=by obtain⟨bZ,cap,e,h1,h2⟩:=h;refine⟨bZ,cap,e,h1,λh0=>?_⟩;grind[World.cell?_of_block]
theorem vB(h1:∀p,p<N->(ps p).Pairwise λa b=>a.2.1≠b.2.1)(h2:∀p q,p<N->q<N->p≠q->∀a∈ps p,∀b∈ps q,a.2.1≠b.2.1):∀k,k<=N->(eL ps k).Pairwise λa b=>a.2.1≠b.2.1
 |0,_=>List.Pairwise.nil
 |k+1,hk=>List.pairwise_append.2 ⟨vB h1 h2 k AQ,h1 k AQ,λa d b c=>by
  grind[XK]⟩
structure Q5(M aD:dL)(w:aR)(most:Nat)(ds:List aG)(u:Value)(w':aR)(n':Nat)(bm:ual)(cx:dL):Prop where
 n:n'<=most
 sub:∀b,M b->cx b
 new:∀b,cx b->M b\/¬aD b
 cl:fG (da prog false) cx bL w'
 val:au (dp cx bL) u u
 vy:nC ds (λb=>cx b/\w.heap.size<=b) w' u
 same:∀b,aD b->w'.heap[b]?=w.heap[b]?
 sh:∀b,cx b\/aD b\/w'.heap.size<=b->∀l,fy l=some b->¬bm l
 size:w.heap.size<=w'.heap.size
 later:OsLater w.os w'.os
 output:w'.output=w.output
 tape:w'.tape=w.tape
def aB1:gE prog false f117=true:=by decide+kernel
variable{s7:Nat}
def Av.same{D sv}(h:Av w s7 N sv ps)(f:Carry (dp D bL) w w')(hd:D s7)(i:∀p,p<N->au (dp D bL) (sv p) (sv p))(j:∀p,p<N->∀x∈ps p,D x.1.c5):∃d,(∀p,p<N->s5 (dp D bL) (ps p) (d p))/\Av w' s7 N sv d:=by
 have key:∀p,∃q,p<N->s5 (dp D bL) (ps p) q/\nB w' (sv p) q:=by
  intro p;by_cases c:p<N
  .obtain⟨q,h1,h2⟩:=L9 (ρ:=dp D bL) (λa b k h1 h2=>h1.1.symm.trans h2.1) f (i p c) (λx g=>⟨Y,j p c x g⟩) (h.cells p c);grind
  .exact⟨[],λh=>absurd h c⟩
 obtain⟨d,key⟩:=vbi.1 key;refine⟨d,λp c=>(key p c).1,λp c=>?_,λp c=>(key p c).2⟩;obtain⟨v',h1,h2⟩:=f ⟨s7,p,none⟩ ⟨s7,p,none⟩ _ ⟨⟨Y,hd⟩,Y,Y⟩ (h.list p c);obtain⟨bZ,cap,e,-⟩:=h.cells p c;grind[tg]
theorem Av.keeps{sv}(h:Av w s7 N sv ps)(hk:bp w w'):Av w' s7 N sv ps:=⟨λp a=>hk _ _ _ (h.list p a),λp a=>(h.cells p a).keeps hk⟩
theorem vw{ρ a}(h:∀p,p<N->s5 ρ (ps p) (a p)):∀k,k<=N->s5 ρ (eL ps k) (eL a k)
 |0,_=>⟨Y,λt h=>by simp[eL]at h⟩
 |k+1,hk=>by
  obtain⟨h1,h2⟩:=vw h k AQ;obtain⟨h3,h4⟩:=h k AQ;refine⟨by simp[eL,h1,h3],λt ht b=>?_⟩;simp only[eL]at ht b⊢;by_cases e:t<(eL ps k).length
  .rw[vcp e,vcp AQ];exact h2 t e AQ
  .rw[vcl]at ht b;rw[vet AQ,vet AQ];simp only[h1];exact h4 (t-(eL ps k).length) AQ AQ
theorem aB2{S af n W:Nat}{rows:uas}{M aD:dL}(vZ:∀b,M b->aD b)(hg:∀g,g<=prog.globals.size->M g)(cB:fG (da prog false) M bL w)(Lf:N<=1000)(f_:Nat->List aG)(fk:∀p,p<N->∀d∈f_ p,M d.c5)(hne:∀p,p<N->0<(f_ p).length)(Hn:(jj f_ N).length<=1000){cJ:uaf}{c:dU}{cH:aR}{c2 dB b2 n':Nat}{bm:ual}{M':dL}{D:uai}(Bi:∀T v Q x,cJ T v Q x->T<N->yn (da prog false) w.heap.size M c.K L_ (f_ T) v Q x)(z:E8 true c aD S af N n W rows (λ_=>false) (λ_=>undef) c2 dB b2)(hI:ai eU aD w cH)(j:HK c cJ (λ_=>False) cH n' bm M' D w'){Stop:uax}{st:Nat}(hst:st=c.st):
 ON bm Stop 117 #[.S c.cU 0 N N] (w'.setCell ⟨st,0,none⟩ (.int .i32 1))
  (λu w2=>(∃cx,Q5 M aD w (n+W) (jj f_ N) u (w2.setCell ⟨st,0,none⟩ (.int .i32 0)) n' bm cx)/\(∃a n c,u=.slice a n c)/\w2.heap[st]?=(w'.setCell ⟨st,0,none⟩ (.int .i32 1)).heap[st]?/\w'.heap.size<=w2.heap.size):=by
 subst hst;have E_:c.N=N:=z.a5;have Vq:c.st<w'.heap.size:=j.low _ Jz;have x6:(w'.setCell ⟨c.st,0,none⟩ (.int .i32 1)).heap.size=w'.heap.size:=ah.oq _ _ _;have P:∀b,M' b->(w'.setCell ⟨c.st,0,none⟩ (.int .i32 1)).heap[b]?=w'.heap[b]?:=λb i=>mN w' _ _ (λe=>j.KO AA);have Fa:(w'.setCell ⟨c.st,0,none⟩ (.int .i32 1)).os=w'.os/\(w'.setCell ⟨c.st,0,none⟩ (.int .i32 1)).output=w'.output/\(w'.setCell ⟨c.st,0,none⟩ (.int .i32 1)).tape=w'.tape:=⟨rfl,rfl,rfl⟩;generalize nD:w'.setCell ⟨c.st,0,none⟩ (.int .i32 1)=w1 at *;have aug:∀b,aD b->M' b:=λb i=>j.sub b (.inr (.inl ((z.hK b).2 (.inl i))));have auh:∀b,aD b->w'.heap[b]?=w.heap[b]?:=λb i=>(j.stands b (.inl ((z.hK b).2 (.inl i)))).trans (hI.heap b (.inr i));obtain⟨aB3,VD,aKQ,qz⟩:=j.Ua;have l:∀p:Nat,∃(v:Value)(gs:List cY)(G:dL),p<N->D[p]?=some v/\gs.map Prod.fst=f_ p/\(∀b,G b->aB3 p b/\M' b/\¬c.K b)/\fG (da prog false) (λb=>M b\/G b) bL w'/\au (dp (λb=>M b\/G b) bL) v v/\nB w' v gs/\r7 w' gs (λb=>G b/\w.heap.size<=b):=by
  intro p;by_cases f:p<N
  .obtain⟨v,h1,h2⟩:=qz p (E_▸f) (by rw[z.mf]);have VJ:=λb=>VD p b (E_▸f);obtain⟨gs,G,g0,g1,g2,g4,jB,sQ⟩:=Bi _ _ _ _ h2 f;exact⟨v,gs,G,λ_=>⟨h1,g0,λb i=>⟨(g1 b i).1,VJ b (g1 b i).1,(g1 b i).2⟩,g2,g4,jB,sQ⟩⟩
  .exact⟨undef,[],bL,λh=>absurd h f⟩
 obtain⟨sv,l⟩:=vbi.1 l;obtain⟨ps,l⟩:=vbi.1 l;obtain⟨G,l⟩:=vbi.1 l;have aKR:∀p,p<N->0<(ps p).length:=λp f=>by grind
 let m:Nat->Prop:=λb=>M b\/b=c.cU\/∃p,p<N/\G p b
 have B:∀b,m b->M' b:=by
  rintro b (h|h|⟨p,f,h⟩)
  .grind
  .exact j.sub b (.inr (.inr h))
  grind
 have X:∀p,p<N->∀b,M b\/G p b->m b:=by grind
 have KU:fG (da prog false) m bL w1:=by
  intro b i;rw[P b (B b i)];rcases i with h|h|⟨p,f,h⟩
  .obtain⟨o,h1,h2⟩:=cB b h;exact⟨o,AA,h2.imp (hU.mono (E9 AA)) id⟩
  .subst h;refine⟨_,j.done,.inl (.cells _ (mw λv hv=>?_) AA)⟩;obtain⟨p,f,rfl⟩:=vbj hv;have ov:p<N:=by rw[<-E_,<-j.len];exact f
   have:=l p ov;rw[vaq f]at this;have e:=van this.1;rw[e];exact this.2.2.2.2.1.mono (E9 (X p ov))
  .obtain⟨o,h1,h2⟩:=(l p f).2.2.2.1 b (.inr h);exact⟨o,h1,h2.imp (hU.mono (E9 (X p f))) id⟩
 have eM:aJ (dp m bL) #[Value.slice (some (.a c.cU 0)) N N] #[Value.slice (some (.a c.cU 0)) N N]:=.one (.slice _ _ ⟨⟨rfl,.inr Jv⟩,rfl,rfl⟩);have xM:m c.cU:=.inr Jv;have E3:∀p,p<N->∀g n k,sv p=.S g 0 n k->m g:=λp f g n k e=>by have:=(l p f).2.2.2.2.1;rw[e]at this;cases this with|slice _ _ r=>exact X p f _ r.1.2
 have VK:Av w1 c.cU N sv ps:=by refine⟨λp f=>?_,λp f=>(l p f).2.2.2.2.2.1.at λg n k e=>P _ (B _ (E3 p f g n k e))⟩;have h1:=(l p f).1;have h2:w1.heap[c.cU]?=some (.cells D.toArray c.Dl):=(P _ (B _ xM)).trans j.done;simp_all[World.cell?]
 obtain⟨O,aM⟩:=Jm (da prog false) m bL w1;obtain⟨C,hrel,aB4⟩:=VK.same (aM.carry KU) xM (λp f=>(l p f).2.2.2.2.1.mono (E9 (X p f))) (λp f x t=>.inl (fk p f _ ((l p f).2.1▸vdk t)));have L:=vw hrel N JR;have Md:(eL C N).map Prod.fst=jj f_ N:=L.fst.trans (sP (λp f=>(l p f).2.1) N JR);have hlen:(eL C N).length<=1000:=by grind
 intro Hz J E2 HA HB E HD hk;have VL:∀T,Calls vfd 117 #[Value.slice (some (.a c.cU 0)) N N] {O with tape:=T} (λe U=>∃v,e=.returned v/\U.ownsRow O.heap.size 148 18 v (eL C N).length (ga (eL C N))):=λT=>
  (aBY {O with tape:=T} (aB4.keeps (zi O T)) Lf hlen (λp f=>by rw[(hrel p f).1];grind)).mono λe w'⟨v,h1,h2,_⟩=>⟨v,h1,h2⟩
 have q7:=NR uL func117 aB1 rfl AD KU AA AA eM (R:=λv U=>U.ownsRow O.heap.size 148 18 v (eL C N).length (ga (eL C N))) aM VL true (Hz.at J (.R E2 (HA::HB)::E)) HD;refine Uq q7 rfl (λb i=>?_) (λb i=>?_) ?_
 .rcases i with h|h
  .rw[x6];exact j.low b AA
  .exact h.elim
 .rcases i with h|h|h
  .exact j.tV b AA
  .exact h.elim
  .exact j.tV b AA
 rintro Y ⟨ρ,U,v,v',A⟩ F;rw[A.g,vco];obtain⟨aui,H⟩:=A.world;have lP:∀b,Y.mine b->w1.heap.size<=b/\b<Y.w.heap.size:=λb i=>(F.new b i).resolve_left λh=>h.elim;have Z:∀b,(∃a,ρ.rel a b)->m b\/w1.heap.size<=b:=by
  rintro b ⟨a,et⟩;rcases A.dom a b et with h|h
  .grind
  grind
 have Vr:∀b,b<w1.heap.size->Y.w.heap[b]?=w1.heap[b]?:=λb i=>F.kept b i λh=>h.elim;have auj:¬ ∃a,ρ.rel a c.st:=λh=>by
  rcases Z _ h with h|h
  .exact j.KO (B _ h)
  .omega
 have HQ:∀b,(∃a,ρ.rel a b)->(Y.w.setCell ⟨c.st,0,none⟩ (.int .i32 0)).heap[b]?=Y.w.heap[b]?:=λb i=>mN _ _ _ AA;have OZ:=H.closed bL;have ti:au (dp (λb=>∃a,ρ.rel a b) bL) v' v':=au.right (σ:=dp (λb=>∃a,ρ.rel a b) bL) (λa b et=>⟨rfl,a,et⟩) A.val;have VM:w'.heap.size<=Y.w.heap.size:=AA;have auk:w.heap.size<=w'.heap.size:=vad hI.size j.size;have aul:(Y.w.setCell ⟨c.st,0,none⟩ (.int .i32 0)).heap.size=Y.w.heap.size:=ah.oq _ _ _;have V:∀b,m b->ρ.rel b b:=λb i=>A.le.1 b b ⟨rfl,i⟩;have aB5:r7 w' (eL ps N) (λb=>(∃p,p<N/\G p b)/\w.heap.size<=b):=by
  refine⟨λx t=>?_,vB (λp f=>(l p f).2.2.2.2.2.2.2) (λp q f hq aKS x t y hy e=>?_) N JR⟩
  .obtain⟨p,f,t⟩:=XK t;obtain⟨k1,k2,k3⟩:=(l p f).2.2.2.2.2.2.1 x t;grind
  .have h1:=((l p f).2.2.1 _ ((l p f).2.2.2.2.2.2.1 x t).2.1).1;have h2:=((l q hq).2.2.1 _ ((l q hq).2.2.2.2.2.2.1 y hy).2.1).1;grind
 have aB6:r7 w' (eL C N) (λb=>(∃p,p<N/\G p b)/\w.heap.size<=b):=aB5.rel L LO λp f b' eS s o=>by obtain⟨rfl,-⟩:=eS;grind
 have K:nC (jj f_ N) (λb=>(∃a,ρ.rel a b)/\w.heap.size<=b) (Y.w.setCell ⟨c.st,0,none⟩ (.int .i32 0)) v':=by
  obtain⟨g2,r2,nI⟩:=L9 H.one H.carry A.val (λx t=>V _ (.inl (by
   grind[List.mem_map_of_mem,XL]))) (uC A.post)
  refine⟨g2,r2.fst.trans Md,nI.at λg n k e=>?_,aB6.rel r2 H.inj λx t b' eS s o=>?_⟩
  .have hval:=ti;rw[e]at hval;cases hval with|slice _ _ r=>exact HQ g r.1.2
  .have I:m x.2.1:=.inr (.inr o.1);have e2:=H.one _ _ _ eS (V _ I);subst e2;refine⟨s.same ?_,⟨_,V _ I⟩,o.2⟩;rw[HQ _ ⟨_,V _ I⟩,Vr _ (by rw[x6];exact j.low _ (.inl (B _ I))),P _ (B _ I)]
 refine hk v' Y.w ⟨⟨λb=>∃a,ρ.rel a b,⟨?_,λb i=>⟨b,A.le.1 b b ⟨rfl,.inl i⟩⟩,λb i=>?_,pE OZ HQ,ti,K,λb i=>?_,λb i=>?_,?_,?_,?_,?_⟩⟩,?_,?_,VM⟩
 .rw[<-z.fl];exact j.n
 .rcases Z b i with h|h
  .rcases h with h|h|⟨p,f,h⟩
   .grind
   .exact .inr λx=>(c.xL b ((z.hK b).2 (.inl x))).2.2 h
   .exact .inr λx=>((l p f).2.2.1 b h).2.2 ((z.hK b).2 (.inl x))
  .exact .inr λx=>by have:=j.low b AA;omega
 .have hlt:b<w1.heap.size:=by rw[x6];exact j.low b AA
  have hne:b≠c.st:=(c.xL b ((z.hK b).2 (.inl i))).1;grind[mN]
 .rcases i with h|h|h
  .rcases Z b h with h|h
   .exact j.tV b (.inl (B b h))
   .exact j.tV b AA
  .exact j.tV b AA
  .exact j.tV b AA
 .omega
 .exact(hI.later.trans j.os).trans (by have:=F.os;rw[show(Y.w.setCell ⟨c.st,0,none⟩ (.int .i32 0)).os=Y.w.os from rfl,<-Fa.1];grind)
 .exact(show Y.w.output=_ from F.output).trans (Fa.2.1.trans (j.output.trans hI.output))
 .exact(show Y.w.tape=_ from F.tape).trans (Fa.2.2.trans (j.tape.trans hI.tape))
 .obtain⟨gs,-,⟨bZ,cap,e,-⟩,-⟩:=K;grind
 grind
end bd
namespace aV
open Conc ConcM RowKit av bj ah eK hO fH iu cV oB dx bd
section
variable{O:gW}
def aB7{M aD w most ds u w' a c b}(h:Q5 M aD w most ds u w' a c b)k:Q5 M aD w most ds u (w'.at k) a c b:=
 ⟨h.n,h.sub,h.new,h.cl,h.val,h.vy,h.same,h.sh,h.size,h.later,h.output,h.tape⟩
def aB8(M:dL)(w:aR)(ds:List aG)(u:Value)(M':dL)(w':aR):Prop:=
 ∃v,u=.tuple #[v,.N]/\nC ds (λb=>M' b/\w.heap.size<=b) w' v/\∀b,M b->w'.heap[b]?=w.heap[b]?
def lH(G:Nat->aG)(af n T:Nat):List aG:=ee (jF G (T*af) (min (T*af+af) n))
theorem aB9 G af n T:(lH G af n T).length<=min (T*af+af) n-T*af:=by have:=LZ (jF G (T*af) (min (T*af+af) n));rw[Ar]at this;exact this
theorem aB_ ds g:0<(fu ds g).length:=by cases hq:eX g.key ds with|none=>rw[p6 hq];simp|some j=>rw[m4 hq,List.length_modify];have:=(B0 hq).1;omega
def aCa{L}(h:0<L.length):0<(ee L).length:=by obtain⟨n,hn⟩:∃n,L.length=n+1:=⟨L.length-1,AQ⟩;grind[LX,List.take_length,aB_]
theorem aCb G{af n T}(a:0<af)(h:T*af<n):0<(lH G af n T).length:=aCa JQ
theorem XM G af n:∀k,eK.je (λT=>(lH G af n T).length) k<=min (k*af) n
 |0=>by simp[eK.je]
 |k+1=>by have h1:=XM G af n k;grind[aB9,eK.je]
theorem XN D:∀k,(jj D k).length=eK.je (λT=>(D T).length) k
 |0=>rfl
 |k+1=>by rw[jj,vcl,XN D k];simp only[eK.je];try omega
def aCc{Post:hV}{M:dL}{w:aR}{op a:Int}{xs:uav}{vs:Nat->List bz}{G:Nat->aG}{br:uac}{aF:g7}{kb cL cb co aU bA kc cc gc af W:Nat}{ca:uag}(h4:br.length<=4)(aP:aF.length=5)(aN:fG (dr prog) M (ju M) w)(z:∀g,g<=prog.globals.size->M g)(hin:0<xs.length->ca=some ⟨cb,co,none⟩/\p7 w xs vs G br aF kb cL cb co aU bA/\M cb)(F:M aU)(E:M kb)(B:xs.length<=cc)(Q2:au (b7 M) (fI (gy op a kb cL br.length kc aU bA gc) (.slice ca xs.length cc)) (fI (gy op a kb cL br.length kc aU bA gc) (.slice ca xs.length cc)))(K:∀i,i<xs.length->M (G i).c5)(R:xs.length<=300)(C:0<af)(P:af<=64)(J:0<W)(Q:W<=16)(hok:∀i,i<xs.length->mC 1 (G i)):
 fZ O prog Post 55 #[.agg #[.I (W:Int),.I (af:Int)],.iface 150 (fI (gy op a kb cL br.length kc aU bA gc) (.slice ca xs.length cc))] M w 1
  (aB8 M w (jj (lH G af xs.length) ((xs.length+af-1) / af))):=by
 intro n Shun hn l gX aI aC aL aO aK csZ hc U;have s:fG (da prog false) M bL w:=HR aN;have oS:(λb=>M b\/bL b)=M:=by
  funext b
  exact propext ⟨λh=>h.resolve_right λx=>x,.inl⟩
 obtain⟨eJ,A⟩:=HS (S:=xs.length) C;generalize a5:(xs.length+af-1) / af=N at *;have aun:N<=xs.length:=by
  have:∀k,k<=N->k<=xs.length:=by intro k hk;cases k with|zero=>omega|succ k=>have:=A k hk;have h2:=Nat.le_mul_of_pos_right k C;omega
  grind
 have aqo:=XM G af xs.length N;have IG:∀p,p<N->∀d∈lH G af xs.length p,M d.c5:=λp hp=>B7 λd hd=>by obtain⟨k,hk,rfl⟩:=vbl.1 hd;grind
 refine VG true (j4:=209) (rows:=λT=>(lH G af xs.length T).length) (aD:=λb=>M b\/b<O.n) (ox:=λc T u M' w'=>T<c.N/\yn (da prog false) w.heap.size M c.K L4 (lH G af xs.length T) u M' w') (cJ:=λc T v M' w'=>T<c.N/\yn (da prog false) w.heap.size M c.K L_ (lH G af xs.length T) v M' w') C P J Q AQ a5.symm AQ AQ (λb e=>e.elim l.lt λx=>vak x l.ob) (λb e=>e.elim (λx=>x.elim (λy=>l.sh b (.inl y)) (l.so b)) λx=>l.sh b (.inr x)) (arn _ _)
  (λST bs L=>arj (M:=M) (λb e=>.inl e) z s (x7 Q2) L)
  (λc cH Stop Z X b2 j hI=>?_)
  (V:=λu w' m r=>∃q,Q5 M (λb=>M b\/b<O.n) w (n+W) (jj (lH G af xs.length) N) u w' m r q) (λu w' m r k h=>by obtain⟨q,h⟩:=h;exact⟨q,aB7 h k⟩) (λc cH Z X b2 m r M' D w' st j hI cr hst=>?_) (λu w' m r hv=>?_)
 .by_cases h0:0<xs.length
  .have o:∀b,M b->cH.heap[b]?=w.heap[b]?:=λb e=>hI.1 b (.inl e);have pF:=pE s o;obtain⟨rfl,hin,H⟩:=hin h0;refine aBL (a8:=M) hI.2 (λb e=>(j.hK b).2 (.inl (.inl e))) z AA h4 aP (p7.same hin s (sF o s) H F E) H F E B R hok (λT=>by rw[j.mf]) (by grind[x7]) (XH _ _) K (λT f=>?_) (λT f=>j.ss T (j.a5▸f));have:=A T (j.a5▸f);omega
  .have t:∀T,¬T<c.N:=λT f=>by have:=A T (j.a5▸f);omega
   exact⟨XH _ _,λT _ _ _ f=>absurd f (t T),λT _ _ _ _ _ _ f=>absurd f (t T),λT _ _ _ h=>absurd h.1 (t T),(λT=>by rw[j.mf]),λT _ _ _ _ _ h=>absurd h.1 (t T)⟩
 .grind[aB2,aCb,XN]
 .obtain⟨q,h⟩:=hv;refine U (.tuple #[u,.N]) q w' m r (by have:=h.n;omega) ⟨HR h.cl,λg hg=>h.sub g (z g hg),λb e=>h.sh b (e.imp id .inr),λb e h0=>(h.new b e).elim (λx=>l.new b x h0) AA,vad l.ob h.size,λb h0 e=>(h.same b (.inr e)).trans (l.old b h0 e),λb e=>h.sh b AA⟩ h.sub (.F_ (mw λx I=>?_)) ⟨h.size,h.later,h.output,h.tape⟩ ⟨u,Y,h.vy,λb e=>h.same b (.inl e)⟩;simp at I;rcases I with rfl|rfl
  .exact x7 h.val
  .exact .iH _ _
