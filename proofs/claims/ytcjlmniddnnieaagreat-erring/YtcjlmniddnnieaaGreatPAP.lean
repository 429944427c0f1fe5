import Derived.Test.YtcjlmniddnnieaaGreatPAL
import Derived.Test.YtcjlmniddnnieaaGreatPAM
set_option linter.all false
set_option maxRecDepth 100000
set_option maxHeartbeats 16000000
namespace Go.Proofs.YtcjlmniddnnieaaGreat
open Tryz
namespace bM
open RowKit Shelf au bU
def NJ(w0:aH)(rs:List bh)(t:Nat)(W:aH)(x:Value):Prop:=∃(h:t<rs.length)(di:uam)(pc:Nat)(b6:uam)(cA:Nat),x=.agg #[.slice di rs[t].1.length pc,.slice b6 rs[t].2.length cA]/\j5 w0 (.slice b6 rs[t].2.length cA) rs[t].2/\br w0 W
theorem func30:vee.funcs[(30:Nat)]?=some f30:=a5 (upd:=true) Tryz.func30 AM
variable{n:Nat}
def ao2(rs:List bh)(aA:Value)(cZ:Nat)(w0:aH)(P:eS w0 aA rs)(O:rs.length<=1000000)(k:w0.cell? (.a cZ 0)=some aA):
 Ga n vee 30 #[.P cZ 0] (NJ w0 rs) rs.length w0.heap.size w0:=by
 intro l S J W f v t A h0;have D:=MZ v t;clear t v;have j:=br.ck f;have w:=j _ _ _ k;obtain⟨X,cap,rfl,-,s⟩:=P;refine callsIn_of_wp func30 rfl trivial ?_ rfl;simp[vbq];gi_wp2
 gi_loopw [7] (λp wr=>∃i:Nat,i<=rs.length/\p=.I (i:Int)/\J i wr/\cy w0 wr/\Below w0.heap.size W wr) (λp _=>rs.length-(intOf p).toNat)
 case atStart=>exact⟨0,vba _,rfl,h0,f,vaa _ _⟩
 case round=>
  obtain⟨i,U,rfl,B,C,F⟩:=hrel;have x:Hid (J i wr):=B;have c:Hid (cy w0 wr):=C;have y:Hid (Below w0.heap.size W wr):=F;clear B C F;by_cases a:i<rs.length
  .obtain⟨b,off,rfl,pv,cI,m,d1,E,g⟩:=s i a;obtain⟨H,pc,rfl,-,-⟩:=id E;obtain⟨r,o,rfl,-,-⟩:=id g;have q:=br.ck c.out;simp at m;have Q:=q _ _ _ m;have V:=q _ _ _ d1;have Y:=fB Q;have K:Hid (j5 w0 (.slice r rs[i].2.length o) rs[i].2):=g;have M:(i:Int)<(rs.length:Int):=AP;have R:(0:Int)<=(i:Int):=AP;clear q m d1 s E g h0 f j w k;have d:cy wr (wr.alloc (.cells #[.slice H rs[i].1.length pc,.slice r rs[i].2.length o] 79)):=(vaa _ wr).alloc Kj _;obtain⟨fn,tmps,assign,body,N,I⟩:=A i _ _ (D _ _ _ x.out d) a ⟨a,H,pc,r,o,rfl,K.out,br.ck (c.out.trans (d.mono c.out.size))⟩;have u:Hid _:=d;clear A D d;gi_wp2
   refine⟨λh=>Bu,I.mono ?_⟩;rintro e T ⟨rfl,L,z⟩;clear I N;gi_wp2
   go_roundw
   case rel=>exact⟨i+1,AP,AQ,L,c.out.trans ((u.out.mono c.out.size).trans z),y.out.trans ((u.out.mono c.out.size).trans z)⟩
   case measure=>simp[intOf];omega
  .have M:¬(i:Int)<(rs.length:Int):=by omega
   clear s h0 f j w k;gi_wp2
   go_end0
   have e:rs.length=i:=AP;rw[e];exact⟨⟨_,rfl⟩,x.out,y.out⟩
structure iq(Y:ubn)(W W':aH):Prop where
 size:W.heap.size<=W'.heap.size
 cells:∀(b:Nat)(c:fi)(e:uab)(z:ubv),W.heap[b]?=some (Obj.cells c e z)->Y e->W'.heap[b]?=some (Obj.cells c e z)
variable{Y:ubn}
theorem iq.trans{A B C:aH}(h:iq Y A B)(k:iq Y B C):iq Y A C:=⟨vac h.size k.size,λb c e z x y=>k.cells b c e z (h.cells b c e z x y) y⟩
variable{W W':aH}
def iq.qf(h:jh W W'):iq Y W W':=⟨h.size,λb c e z x _=>h.cells b c e z x⟩
variable{b:Nat}{cs:fi}
def iq.set{T:uab}(h:ag W b cs T)(a:¬Y T)(o:Nat)(v:Value):iq Y W (W.setCell ⟨b,o,none⟩ v):=
 ⟨BR,λk c e z x y=>by
  grind[ag,Below.heap_setCell]⟩
def ao3(h:cy W W'):KeepsOthers W W':=⟨h.size,λ_ _ x _=>(h.block _ (ml x)).trans x⟩
def TH(Y:ubn)(n:Nat)(P:cf)(g:Nat)(lb:fi)(Row:uat)(N nQ:Nat)(w0:aH):Prop:=
 ∀(l:Nat)(S:dY)(J:ubh)(W:aH),Below nQ w0 W->nQ<=W.heap.size->(∀b,S b->b<W.heap.size)->(∀t W W',J t W->iq (λe=>¬Y e) W W'->(∀b,S b->W'.heap[b]?=W.heap[b]?)->J t W')->
  (∀t x W1,J t W1->t<N->Row t W1 x->nQ<=W1.heap.size->YieldAt Fence.wide (n-1) P l #[x] W1 λe W'=>e=.returned (.T)/\J (t+1) W'/\Below nQ W1 W'/\KeepsOthers W1 W'/\iq Y W1 W')->
  J 0 W->CallsIn Fence.wide n P g (#[.func (.yield l) #[] #[]]++lb) W λe W'=>(∃v,e=.returned v)/\J N W'/\Below nQ W W'
variable{N gf:Nat}{w:aH}{lb:fi}{assign body:Code}
def ao4{P:cf}{g:uau}{p:Tmp}{Q:ual}{a:Act}{Row:uat}{nQ:Nat}{w0:aH}(hg:a.eval g=.func (.func gf) #[] lb)(vd:∀args w,(callFunc gf args).run P w=.ok (.enter gf args) w)(J:TH Y (n-1) P gf lb Row N nQ w0)(R:Below nQ w0 w)(hn:nQ<=w.heap.size)(I:ubh)(j:∀t W W',I t W->iq (λe=>¬Y e) W W'->I t W')(h0:I 0 w)(q:ubo)(Jd:∀t x a' W W',q t x a' W->jh W W'->q t x a' W')(Je:∀(l t:Nat)(x:Value)(W:aH)(K:uag),I t W->t<N->Row t W x->(∀a' W',cy W W'->q t x a' W'->K a' W')->
  assign.wpIn (Fence.wide.inRound l) (n-1-1) P (Exit.then K (λ_ _ _=>False)) {tmps:=a.tmps.setIfInBounds p x,defers:=[]} W)(E:∀(l t:Nat)(x:Value)(a':Act)(W:aH),I t W->t<N->q t x a' W->nQ<=W.heap.size->body.wpIn (Fence.wide.inRound l) (n-1-1) P (λe _ W'=>e=.normal/\KeepsOthers W W'/\Below nQ W W'/\iq Y W W'/\I (t+1) W') a' W)(hdone:∀W,I N W->Below nQ w W->W.heap[w.heap.size]?=some (.deferred (some []))->Q .normal {a with defers:={target:=.collected w.heap.size,args:=#[]}::a.defers} W):
 (Code.rangeFunc g #[p] assign body).wpIn Fence.wide n P Q a w:=by
 refine wpIn_rangeFunc ?_;intro fn V;obtain⟨rec,B⟩:∃rec:LoopState->Loop,rec=λst=>{state:=st,pending:=none,fn,tmps:=a.tmps,params:=#[p],assign,body,defers:=w.heap.size}:=⟨_,rfl⟩;obtain⟨c,Jf⟩:∃c,(w.alloc (.deferred (some []))).alloc (.loop (rec .ready))=c:=⟨_,rfl⟩;have Cd:c.heap[w.heap.size+1]?=some (.loop (rec .ready)):=by grind[World.alloc_heap_new,World.size_alloc]
 have Jg:c.heap[w.heap.size]?=some (.deferred (some [])):=by grind[Below.heap_alloc,World.alloc_heap_new]
 have A:cy w c:=by rw[<-Jf];exact((vaa _ w).alloc Kj _).alloc AQ _
 refine⟨w.heap.size+1,[{target:=.collected w.heap.size,args:=#[]}],c,{target:=.fn (.func gf) lb,args:=#[.func (.yield (w.heap.size+1)) #[] #[]]},c,gf,#[.func (.yield (w.heap.size+1)) #[] #[]]++lb,c,?_,?_,λ_ _=>trivial,?_,λh=>Bu,?_⟩
 .simp_all[run_enterLoop_outer]
 .simp only[resolve,hg];simp[go_sem]
 .grind[invoke]
 .refine(J (w.heap.size+1) (λb=>b=w.heap.size\/b=w.heap.size+1) (λt W=>I t W/\W.heap[w.heap.size+1]?=some (.loop (rec .ready))/\W.heap[w.heap.size]?=some (.deferred (some []))) c (R.trans (A.mono hn)) AJ ?_ ?_ ?_ ⟨j _ _ _ h0 (.qf (jh.below A)),Cd,Jg⟩).mono ?_
  .grind
  .grind
  .rintro t x W ⟨hi,f,hk⟩ i b4 X;have z:=run_yield (P:=P) (args:=#[x]) f AJ;rw[B]at z;refine⟨fn,_,assign,body,z,roundIn_of_wpIn V ?_⟩;clear z;have e1:(#[p].zip #[x]).foldl (λtmps(u:Tmp×Value)=>tmps.setIfInBounds u.1 u.2) a.tmps=a.tmps.setIfInBounds p x:=AQ;refine Eq.mp (vbp (λT=>Code.wpIn (Fence.wide.inRound (w.heap.size+1)) (n-1-1) P assign _ {tmps:=T,defers:=[]} W) e1.symm) ?_;refine Je _ t x W _ hi i b4 ?_;intro a' D d Jh;have m:=(d.block _ (ml f)).trans f;have Z:=(d.block _ (ml hk)).trans hk;refine⟨_,run_beginRound m AJ,?_⟩;have O:(D.putObj (w.heap.size+1) (.loop {rec .ready with state:=.busy})).heap[w.heap.size+1]?=some (.loop {rec .ready with state:=.busy}):=World.putObj_heap_same (ml m);have M:(D.putObj (w.heap.size+1) (.loop {rec .ready with state:=.busy})).heap[w.heap.size]?=some (.deferred (some [])):=(vay AP).trans Z;refine wpIn_mono (E _ t x a' _ (j _ _ _ (j _ _ _ hi (.qf (jh.below d))) (.qf (jh.put m))) i (Jd _ _ _ _ _ Jh (.put m)) AJ) ?_;rintro e cn L ⟨rfl,r,H,NK,F⟩;have s:=r.same _ _ O rfl;have Ji:=r.same _ _ M rfl;have S:=run_endRound (P:=P) none s;have iB:(L.putObj (w.heap.size+1) (.loop (rec .ready))).heap[w.heap.size+1]?=some (.loop (rec .ready)):=World.putObj_heap_same (ml s);refine⟨_,_,S,rfl,⟨j _ _ _ F (.qf (jh.put s)),?_,(vay AP).trans Ji⟩,?_,⟨?_,λk o x y=>?_⟩,?_⟩
   .grind
   .exact((d.mono X).trans ((t8 _ AP).trans H)).trans (t8 _ AP)
   .have:=d.size;have:=r.size;simp at this⊢;omega
   .by_cases C:k=w.heap.size+1
    .grind
    .exact(vay C).trans (r.same _ _ ((vay C).trans ((d.block _ (ml x)).trans x)) y)
   .exact(((iq.qf (jh.below d)).trans (.qf (jh.put m))).trans NK).trans (.qf (jh.put s))
  .rintro e W2 ⟨⟨v,rfl⟩,⟨hi,f,hk⟩,U⟩;refine⟨none,_,by have:=run_endLoop (P:=P) f AJ;rw[B]at this;exact this,hdone _ (j _ _ _ hi (.qf (jh.put f))) ?_ ((vay AP).trans hk)⟩;exact((A.mono hn).trans U).trans (t8 _ AP)
def ao5{m a l b:Nat}{P:cf}{f:uah}{tmps:fi}{R:Ending->aH->Prop}(h:RoundIn Fence.wide m P l f tmps assign body w R):RoundIn (Fence.wide.inRound b) a P l f tmps assign body w R:=⟨h.1,λc cs _=>h.2 c cs (λd hd=>by simp[Fence.wide]at hd)⟩
section
theorem func29:vee.funcs[(29:Nat)]?=some f29:=a5 (upd:=true) Tryz.func29 AM
attribute [local go_sem] Oper.semAt_some
def ti(e:uab):Prop:=e=3\/e=93
def C9(h:jh W W'){o:Nat}{v:Value}(a:W.cell? (.a b o)=some v):W'.cell? (.a b o)=some v:=by
 have:∃c e z,W.heap[b]?=some (.cells c e z)/\c[o]?=some v:=by unfold World.cell? at a;grind
 obtain⟨c,e,z,d,f⟩:=this;have:=h.cells _ _ _ _ d;grind[World.cell?]
def ao6{Row:uat}(M j k:Nat)(w0:aH)(rZ:∀n,Ga n vee gf lb Row N w0.heap.size w0)(vd:∀args w,(callFunc gf args).run vee w=.ok (.enter gf args) w)(Q:∀t W x,Row t W x->∃p pl pc q c a,x=.agg #[.slice p pl pc,.slice q c a])(b4:∀t W W' x,jh W W'->Row t W x->Row t W' x)(a3:N<=1000000)(i:w0.cell? (.a M 0)=some (.func (.func gf) #[] lb))(f:w0.cell? (.a j 0)=some (.I 0))(g:w0.cell? (.a k 0)=some (.I 9223372036854775807)):
 TH ti n vee 29 #[.P M 0,.P j 0,.P k 0] Row N w0.heap.size w0:=by
 intro l S J W D F hS r X h0;have m:=br.ck D;have y:=m _ _ _ i;have u:=m _ _ _ f;have E:=m _ _ _ g;have Da:=fB y;refine callsIn_of_wp_marks func29 rfl trivial ?_;simp[vbq];gi_wp2
 have d:cy W ((W.alloc (.cells #[.func (.yield l) #[] #[]] 93)).alloc (.cells #[.I 0] 3)):=((vaa _ W).alloc Kj _).alloc AQ _;refine ZM (n:=n) (gf:=gf) (lb:=lb) (w0:=w0) (nQ:=w0.heap.size) (N:=N) (Row:=Row) rfl vd (rZ _) (D.trans (d.mono F)) An S (λb hs=>by have:=hS b hs;simp;omega)
  (λt V=>J t V/\ag V W.heap.size #[.func (.yield l) #[] #[]] 93/\ag V (W.heap.size+1) #[.I t] 3/\V.cell? (.a j 0)=some (.I 0)/\V.cell? (.a k 0)=some (.I 9223372036854775807))
  (λt V pf h hk hs=>⟨r _ _ _ h.1 (.qf hk) hs,hk.cells _ _ _ _ h.2.1,hk.cells _ _ _ _ h.2.2.1,C9 hk h.2.2.2.1,C9 hk h.2.2.2.2⟩)
  ⟨r _ _ _ h0 (.qf (.below d)) (λb hs=>d.block b (hS b hs)),(ag.new W _ _).alloc _,by have:=ag.new (W.alloc (.cells #[.func (.yield l) #[] #[]] 93)) #[.I 0] 3;simp_all,C9 (.below d) u,C9 (.below d) E⟩
  (λt x a' V=>∃o p pl pc q c a,ag V o #[.slice p pl pc,.slice q c a] 79/\x=.agg #[.slice p pl pc,.slice q c a]/\Row t V x/\∃z,a'={tmps:=#[.func (.yield l) #[] #[],.P M 0,.P j 0,.P k 0,.P W.heap.size 0,.P (W.heap.size+1) 0,.P o 0,.func (.func gf) #[] lb,z,.U,.U,.U,.U,.U,.U,.U,.U,.U,.U,.U,.U,.U,.U,.U,.U],defers:=[]})
  (λt x a' V pf h hk _=>by
   obtain⟨o,p,pl,pc,q,c,a,i,f,g,L⟩:=h;exact⟨o,p,pl,pc,q,c,a,hk.cells _ _ _ _ i,f,AJ,L⟩)
  ?assign ?body ?done
 case assign=>
  rintro l' t x V K- -B hK;obtain⟨p,pl,pc,q,c,a,rfl⟩:=Q _ _ _ B;clear y u E i f g D m h0;gi_wp2
  have Z:cy V (V.alloc (.cells #[.slice p pl pc,.slice q c a] 79)):=(vaa _ V).alloc Kj _;exact hK _ _ Z ⟨V.heap.size,p,pl,pc,q,c,a,ag.new V _ _,rfl,b4 _ _ _ _ (.below Z) B,_,rfl⟩
 case body=>
  rintro l' t x a' V ⟨C,H,T,P,NN⟩ I ⟨o,p,pl,pc,q,c,a,cG,rfl,B,z,rfl⟩ fM;obtain⟨fn,tmps,assign,body,hy,bt⟩:=X t _ _ C I B fM;obtain⟨cu,dr,gB⟩:=cG.all;obtain⟨kl,oY,oF⟩:=H.all;obtain⟨g9,iU,iV⟩:=T.all;have Y:=fB f;have TJ:=fB g;have q1:Hid _:=@r;have Jp:Hid _:=hS;have L:Hid _:=H;have aU:Hid _:=T;have JY:Hid _:=P;have NO:Hid _:=NN;have s:Hid _:=Y;have O:Hid _:=TJ;have U:Hid _:=F;have TK:¬(9223372036854775807:Int)<=(t:Int):=AP;have TL:(0:Int)<=(t:Int):=AP;have TM:Hid _:=d;clear y u E i f g D m h0 X r hS H T C Y TJ d F;gi_wp2_with (refine⟨λh=>Bu,(ao5 bt).mono ?_⟩;rintro e v ⟨rfl,xq,A,Db,Dc⟩;have c4:ag v W.heap.size _ _:=Dc.cells _ _ _ _ L.out LO;have R:ag v (W.heap.size+1) _ _:=Dc.cells _ _ _ _ aU.out LF;obtain⟨u1,u2,u3⟩:=R.all)
  have k2:=A.block;have e1:(v.setCell ⟨W.heap.size+1,0,none⟩ (.I (t+1))).cell? (.a j 0)=V.cell? (.a j 0):=World.cell?_of_block ((vaw _ _ _ _ (by have:=s.out;have:=U.out;grind)).trans (A.block _ s.out));have e2:(v.setCell ⟨W.heap.size+1,0,none⟩ (.I (t+1))).cell? (.a k 0)=V.cell? (.a k 0):=World.cell?_of_block ((vaw _ _ _ _ AJ).trans (A.block _ O.out));refine⟨Db.trans (vcz _ _ _),A.setCell (by have:=U.out;grind) _,q1.out _ _ _ xq (iq.set R (λh=>h LF) _ _) (λb hs=>vaw _ _ _ _ (by have:=Jp.out b hs;grind)),c4.ek AQ _,?_,e1.trans JY.out,e2.trans NO.out⟩;have:=R.set 0 (.I (t+1));grind
 case done=>
  rintro V ⟨C,-⟩ hB hK;clear y u E i f g;gi_wp2
  refine⟨AQ,.inl ⟨_,_,rfl,run_takeDeferred hK,?_⟩⟩;refine⟨.tuple #[],by simp[results,results29,go_sem],⟨_,rfl⟩,r _ _ _ C (.qf (M1 hK)) (λb hs=>vay (by have:=hS b hs;simp;omega)),((d.mono F).trans hB).trans (t8 _ An)⟩
end
def pk(k:Int)(D:Nat->bw)(n:Nat):List Value:=if k=3 then []else(List.range n).map λr=>.I (D r).num
def pm(k:Int)(D:Nat->bw)(n:Nat):List Value:=if k=3 then(List.range n).map λr=>.string (D r).text else []
def tj(D:Nat->bw)(n:Nat):List Value:=(List.range n).map λr=>.bool (D r).dL
def ao_(k:Int)(D:Nat->bw)(n:Nat):(pk k D n).length<=n:=by grind[pk]
def apa(k:Int)(D:Nat->bw)(n:Nat):(pm k D n).length<=n:=by grind[pm]
def apb(D:Nat->bw)(n:Nat):(tj D n).length=n:=by simp[tj]
theorem Zh(D:Nat->bw)(n:Nat):tj D (n+1)=tj D n++[.bool (D n).dL]:=by simp[tj,vct]
theorem apc{k:Int}(h:k≠3)(D:Nat->bw)(n:Nat):pk k D (n+1)=pk k D n++[.I (D n).num]:=by simp[pk,vct,h]
theorem apd{k:Int}(h:k=3)(D:Nat->bw)(n m:Nat):pk k D n=pk k D m:=by simp[pk,h]
theorem ape{k:Int}(h:k=3)(D:Nat->bw)(n:Nat):pm k D (n+1)=pm k D n++[.string (D n).text]:=by simp[pm,vct,h]
theorem apf{k:Int}(h:k≠3)(D:Nat->bw)(n m:Nat):pm k D n=pm k D m:=by simp[pm,h]
structure vO(l:fK)(D:Nat->Nat->bw)(m:uas)(L:List eV)(cs:fi):Prop where
 size:cs.size=l.length*5
 JZ:∀i(h:i<l.length),∃c7 vs bS,cs[i*5]?=some (.I l[i].1)/\cs[i*5+1]?=some (.I l[i].2)/\cs[i*5+2]?=some c7/\cs[i*5+3]?=some vs/\cs[i*5+4]?=some bS/\
  L[3*i]?=some ⟨2,c7,pk l[i].1 (D · i) (m i)⟩/\L[3*i+1]?=some ⟨9,vs,pm l[i].1 (D · i) (m i)⟩/\L[3*i+2]?=some ⟨4,bS,tj (D · i) (m i)⟩
 Dd:∀i(h:i<L.length),L[i].e=2\/L[i].e=9\/L[i].e=4
variable{L:List eV}
def NP(h:∀i(h:i<L.length),L[i].e=2\/L[i].e=9\/L[i].e=4)(q:Nat)(x:eV)(a:x.e=2\/x.e=9\/x.e=4):∀i(h:i<(L.set q x).length),(L.set q x)[i].e=2\/(L.set q x)[i].e=9\/(L.set q x)[i].e=4:=by grind
def xF(m:uas)(i j:Nat):Nat:=if j=i then m j+1 else m j
theorem apg(m:uas)(i:Nat):xF m i i=m i+1:=by simp[xF]
variable{i:Nat}
def aph(m:uas){j:Nat}(h:j≠i):xF m i j=m j:=by simp[xF,h]
def vP{r:eV}(h:L[i]?=some r):i<L.length:=(vab.1 h).1
theorem vO.xF{l:fK}{D:Nat->Nat->bw}{m:uas}(h:vO l D m L cs)(hi:i<l.length){a:List eV}{c7 vs b:Value}(u:∀q,q≠3*i->q≠3*i+1->q≠3*i+2->a[q]?=L[q]?)(ht:∀i(h:i<a.length),a[i].e=2\/a[i].e=9\/a[i].e=4)(h0:a[3*i]?=some ⟨2,c7,pk l[i].1 (D · i) (m i+1)⟩)(w:a[3*i+1]?=some ⟨9,vs,pm l[i].1 (D · i) (m i+1)⟩)(v:a[3*i+2]?=some ⟨4,b,tj (D · i) (m i+1)⟩):
 vO l D (xF m i) a (r6 cs i (.I l[i].1) (.I l[i].2) c7 vs b):=by
 refine⟨by simp[r6];exact h.size,λj p=>?_,ht⟩;by_cases e:j=i
 .subst e;have t:=h.size;obtain⟨n,a1,g,d,f⟩:=Z1 (cs:=cs) (k:=j) (.I l[j].1) (.I l[j].2) c7 vs b AP;grind[apg]
 .rw[aph m e];obtain⟨c,o,wn,n,a1,g,d,f,fO,s,r⟩:=h.JZ j p;refine⟨c,o,wn,(xn (i:=0) _ _ _ _ _ e AU).trans n,(xn _ _ _ _ _ e AU).trans a1,(xn _ _ _ _ _ e AU).trans g,(xn _ _ _ _ _ e AU).trans d,(xn _ _ _ _ _ e AU).trans f,?_,?_,?_⟩
  .grind
  .grind
  grind
variable{B:Nat}
def api{l:fK}{D:Nat->Nat->bw}{m:uas}(h:vO l D m L cs)(d:eQ B w L)(t:B<=w.heap.size)(hi:i<l.length)(I:m i<=1000)(ht:(D (m i) i).text.size<=1000000){c7 vs r:Value}(x:cs[i*5+2]?=some c7)(v:cs[i*5+3]?=some vs)(u:cs[i*5+4]?=some r):
 Calls vee 32 #[.agg #[.I l[i].1,.I l[i].2,c7,vs,r],du (D (m i) i)] w λe w'=>∃j n0 cz a1 n c1 a o co s,e=.returned (.agg #[.I l[i].1,.I l[i].2,.slice j n0 cz,.slice a1 n c1,.slice a o co])/\eQ B w' s/\
  vO l D (xF m i) s (r6 cs i (.I l[i].1) (.I l[i].2) (.slice j n0 cz) (.slice a1 n c1) (.slice a o co))/\qW L w w':=by
 obtain⟨y,C,wn,j,a1,a,p,q,fO,b,k⟩:=h.JZ i hi;rw[x]at a;cases a;rw[v]at p;cases p;rw[u]at q;cases q;obtain⟨H,E,rfl⟩:=qS (show w.ownsRow B 2 1 c7 (pk l[i].1 (D · i) (m i)).length _ from d.at fO);obtain⟨F,M,rfl⟩:=qS (show w.ownsRow B 9 1 vs (pm l[i].1 (D · i) (m i)).length _ from d.at b);have l0:=ao_ l[i].1 (D · i) (m i);have l1:=apa l[i].1 (D · i) (m i);have l2:=apb (D · i) (m i);have N:=vP fO;have A:=vP b;have z:=vP k;refine(amw d t fO b k l[i].1 l[i].2 (D (m i) i) ht AJ).mono ?_;rintro e w' ⟨⟨g,c,K,J,⟨hk,rfl,f⟩|⟨hk,rfl,f⟩⟩,hF⟩
 .refine⟨_,_,_,_,_,_,_,_,_,_,rfl,f,h.xF hi ?_ ?_ ?_ ?_ ?_,hF⟩
  .grind
  .exact NP (NP h.Dd _ _ AJ) _ _ LF
  .grind[apc]
  .grind[apf]
  grind[Zh]
 .refine⟨_,_,_,_,_,_,_,_,_,_,rfl,f,h.xF hi ?_ ?_ ?_ ?_ ?_,hF⟩
  .grind
  .exact NP (NP h.Dd _ _ AJ) _ _ AJ
  .grind[apd]
  .grind[ape]
  grind[Zh]
def NQ(h:eQ B W L)(d:∀c e z,W.heap[b]?=some (.cells c e z)->∀i(h:i<L.length),L[i].e≠e):ia L b:=by
 intro i hi hg;rcases(h.own i hi).2 with⟨hn,-⟩|⟨g,cap,bq,hv,-,a,-⟩
 .rw[hn]at hg;cases hg
 .rw[hv]at hg;cases hg;grind
variable{w':aH}
def apj(h:qW L w w')(b:eQ B w L):KeepsOthers w w':=
 ⟨h.size,λk o x y=>(h.block k (ml x) (NQ b λc e z a=>by rw[x]at a;cases a;cases y)).trans x⟩
def apk(h:qW L w w')(a:eQ B w L)(d:∀i(h:i<L.length),¬Y L[i].e):iq Y w w':=
 ⟨h.size,λb c e z x y=>(h.block b (ml x) (NQ a AJ)).trans x⟩
def apl(h:qW L w w')(a:eQ B w L)(hn:n<=B)(hs:n<=w.heap.size):Below n w w':=
 ⟨h.os,h.tape,h.output,h.size,λk hk=>h.block k AP (a.nY AJ)⟩
end bM
namespace bM
open RowKit
variable{i l n:Nat}{P:cf}{ops:fC}{Q:ual}{K:uag}{a:Act}{w:aH}
def apn{K':uag}(e:∀(i:Nat)(o:Oper),ops[i]?=some o->∀c,o.op≠ .defer c)(hK:∀a w,K a w->K' a w)(h:wpOpIn Fence.wide n P ops Q i K a w):wpOpIn (Fence.wide.inRound l) n P ops Q i K' a w:=by
 have h:=wpOpIn_mono (λa w=>hK a w) h;unfold wpOpIn at *;cases d:ops[i]? with
 |none=>grind
 |some o=>
  simp only[d]at h⊢;split
  .rename_i f;simp[f]at h;refine⟨h.1,?_⟩;have b:=h.2;rw[Oper.semAt_eq _ _ _ (e i o d)]at b⊢;generalize(execOp a.eval o).run P w=r at b⊢;cases r with|ok x w'=>cases x<;>exact b|halt x w'=>cases x<;>exact b
  simp_all
def apo{md:Region.Mode}(b:∀(i:Nat)(o:Oper),ops[i]?=some o->∀c,o.op≠ .defer c):∀(fuel:Nat)(listed:uar)(a:Act)(w:aH),wpAnyIn Fence.wide n P md ops Q fuel listed a w->wpAnyIn (Fence.wide.inRound l) n P md ops Q fuel listed a w:=by intro fuel;induction fuel with|zero=>intro listed a w h;exact h|succ fuel d=>exact λlisted a w h=>⟨h.1,λi hi=>apn b AJ (h.2 i hi)⟩
def Zf:Op->Bool
 | .defer _=>true
 | _=>false
def apq{id:Nat}(b:P.follows .mixedOrders=true)(hd:(ops.all λo=> !Zf o.op)=true)(h:wpAnyIn Fence.wide n P .any ops Q ops.size (Array.replicate ops.size false) a w.drew):(Code.region id ops true).wpIn (Fence.wide.inRound l) n P Q a w:=
 vcr b (apo (λi o d c e=>by
  grind[Zf]) _ _ _ _ h)
def qg(C:aH->Prop)(n:Nat)(P:cf)(ops:fC)(Q:ual):Nat->Array Bool->Act->aH->Prop
 |0,listed,a,w=>Region.ready .any ops listed=[]/\Q .normal a w
 |fuel+1,listed,a,w=>(Region.ready .any ops listed=[]->Q .normal a w)/\∀i∈Region.ready .any ops listed,wpOpIn Fence.wide n P ops Q i (λa' w'=>C w'/\qg C n P ops Q fuel (listed.setIfInBounds i true) a' w') a w
variable{C:aH->Prop}
def Bd:∀(fuel:Nat)(listed:uar)(a:Act)(w:aH),qg C n P ops Q fuel listed a w->wpAnyIn Fence.wide n P .any ops Q fuel listed a w:=by intro fuel;induction fuel with|zero=>intro listed a w h;exact h|succ fuel b=>exact λlisted a w h=>⟨h.1,λi hi=>wpOpIn_mono AJ (h.2 i hi)⟩
def tk(C:aH->Prop)(P:cf)(ops:fC)(o:Oper)(v:Value)(a:Act):Prop:=
 veg o ops a.tmps=true/\(∀w,C w->(execOp a.eval o).run P w=.ok (.value v) w)/\(∀c,o.op≠ .defer c)/\∀w,o.about P w a.eval=none
variable{o:Oper}{v:Value}
def tk.op(hi:ops[i]?=some o)(b:tk C P ops o v a)(d:C w)(h:K (a.put o.dst v) w):wpOpIn Fence.wide n P ops Q i K a w:=by unfold wpOpIn;simp[hi,b.1,Oper.wpIn,Oper.semAt_eq _ _ _ b.2.2.1,b.2.1 w d,Oper.uponIn];exact⟨λf c=>(by rw[b.2.2.2 w]at c;cases c),h⟩
theorem tk.put(c:tk C P ops o v a)(hs:∀cs b,o.op≠ .select cs b){d:Option Tmp}(u:Value)(e:∀t,d=some t->t ∉ o.looksAt ops):tk C P ops o v (a.put d u):=
 ⟨(wanted_put o a d u e).trans c.1,λw f=>by rw[execOp_put o hs a d u e];exact c.2.1 w f,c.2.2.1,λw=>by rw[about_put o w a d u e];exact c.2.2.2 w⟩
variable{cU:Oper}
def apr{j:Nat}{oj:Oper}(l:ops[j]?=some oj)(q:cU.apart ops oj=true)(s:∀cs b,cU.op≠ .select cs b)(p:∀cs b,oj.op≠ .select cs b)(t:∀c a w,Q (.panic c) (a.put cU.dst v) w->Q (.panic c) a w)(e:tk C P ops cU v a)(h:wpOpIn Fence.wide n P ops Q j K (a.put cU.dst v) w):
 wpOpIn Fence.wide n P ops Q j (λa' w'=>tk C P ops cU v a'/\K (a'.put cU.dst v) w') a w:=by
 obtain⟨g,y,m⟩:=Oper.apart_spec q;have keep:∀(a:Act),tk C P ops cU v a->∀u,tk C P ops cU v (a.put oj.dst u):=λa e u=>e.put s u m;have o:∀d,tk C P ops cU v {a with defers:=d::a.defers}:=λd=>⟨e.1,e.2.1,e.2.2.1,e.2.2.2⟩;unfold wpOpIn at *;simp only[l]at *;rw[wanted_put oj a cU.dst v g,about_put oj w a cU.dst v g]at h;split
 .rename_i k;simp[k]at h;unfold Oper.wpIn at *;rw[about_put oj w a cU.dst v g]at h;refine⟨h.1,?_⟩;have h:=h.2;have i:Fence.wide.round=none:=rfl;rw[i,Oper.semAt_none,execOp_put oj p a cU.dst v g]at h;rw[i,Oper.semAt_none];generalize(execOp a.eval oj).run P w=r at *;cases r with
  |ok x w'=>
   cases x<;>simp only[Oper.uponIn]at h⊢
   case value u=>grind[Act.put_comm]
   case skip=>grind[Act.put_comm]
   case defer d=>
    grind[Act.put_comm,Act.put_defers]
   case enter f args=>
    grind[CallsIn.mono,Act.put_comm]
   case row row args=>grind[Act.put_comm]
   grind[RoundIn.mono,Act.put_comm]
  |halt x w'=>
   cases x<;>simp only[Oper.uponIn]at h⊢
   grind
 grind[Act.put_comm]
def aps(hi:ops[i]?=some cU)(J:∀(j:Nat)(o:Oper) cs b,ops[j]?=some o->o.op≠ .select cs b)(q:∀c a w,Q (.panic c) (a.put cU.dst v) w->Q (.panic c) a w):
 ∀(fuel:Nat)(listed:uar)(a:Act)(w:aH),
  (∀j oj,ops[j]?=some oj->j≠i->listed.getD j true=false->(∀e∈oj.after,Region.binds .any e=true->e.on≠i)->cU.apart ops oj=true)->
  i∈Region.ready .any ops listed->tk C P ops cU v a->C w->qg C n P ops Q fuel (listed.setIfInBounds i true) (a.put cU.dst v) w->qg C n P ops Q (fuel+1) listed a w:=by
 intro fuel;induction fuel with
 |zero=>
  intro listed a w _ p g f H;refine⟨AJ,λj h=>?_⟩;by_cases d:j=i
  .subst d;exact g.op hi f ⟨f,H⟩
  .have:=ready_mono h d;rw[H.1]at this;grind
 |succ fuel r=>
  intro listed a w A p g f H;refine⟨AJ,λj h=>?_⟩;by_cases d:j=i
  .subst d;exact g.op hi f ⟨f,H⟩
  .have u:=H.2 j (ready_mono h d);obtain⟨x,oj,z,I⟩:=mem_ready.1 h;have D:∀e∈oj.after,Region.binds .any e=true->e.on≠i:=λe E F s=>by grind[mem_ready]
   have t:=apr z AJ AJ AJ q g u;have y:∀k ok,ops[k]?=some ok->k≠i->(listed.setIfInBounds j true).getD k true=false->(∀e∈ok.after,Region.binds .any e=true->e.on≠i)->cU.apart ops ok=true:=λk ok hk B L l=>by
    refine A k ok hk B ?_ l;by_cases K:j=k
    .grind
    simp_all
   refine wpOpIn_mono (λa' w' m=>⟨m.2.1,r (listed.setIfInBounds j true) a' w' y (ready_mono p (Ne.symm d)) m.1 m.2.1 ?_⟩) t;grind[Array.setIfInBounds_comm]
variable{fuel:Nat}
def lh{listed:uar}(hi:ops[i]?=some cU)(hs:Region.noSelect ops=true)(e:Region.free .any ops listed i=true)(g:(Region.ready .any ops listed).contains i=true)(b:∀c a w,Q (.panic c) (a.put cU.dst v) w->Q (.panic c) a w)(f:C w)(d:tk C P ops cU v a)(h:qg C n P ops Q fuel (listed.setIfInBounds i true) (a.put cU.dst v) w):qg C n P ops Q (fuel+1) listed a w:=
 aps hi (Region.noSelect_spec hs) b fuel listed a w (Region.free_spec hi e) AJ d f h
def ir{listed:uar}(b:Region.ready .any ops listed=[i])(c:ops[i]?=some o)(h:∀K':Act->aH->Prop,(∀a w,C w->qg C n P ops Q fuel (listed.setIfInBounds i true) a w->K' a w)->if veg o ops a.tmps=true then Oper.wpIn Fence.wide n P o a w K' Q else(∀f,o.about P w a.eval=some f->Fence.wide.fn f)/\K' (a.put o.dst undef) w):qg C n P ops Q (fuel+1) listed a w:=
 ⟨AJ,by
  rw[b];intro j d;cases List.mem_singleton.1 d;exact wpOpIn_step c λK' hK=>h K' AJ⟩
def De{listed:uar}(b:Region.ready .any ops listed=[])(h:Q .normal a w):∀fuel,qg C n P ops Q fuel listed a w
 |0=>⟨b,h⟩
 | _+1=>⟨λ_=>h,AJ⟩
open Shelf au bU
abbrev io(w:aH)(b k:Nat)(b7 a1 bV cn cN:Value):aH:=((((w.setCell ⟨b,k*5,none⟩ b7).setCell ⟨b,k*5+1,none⟩ a1).setCell ⟨b,k*5+2,none⟩ bV).setCell ⟨b,k*5+3,none⟩ cn).setCell ⟨b,k*5+4,none⟩ cN
variable{b:Nat}{cs:fi}{T:uab}
def apt(h:ag w b cs T)(k:Nat)(e a1 d a c:Value):ag (io w b k e a1 d a c) b (r6 cs k e a1 d a c) T:=((((h.set _ _).set _ _).set _ _).set _ _).set _ _
theorem NR(w:aH)(b k:Nat)(f a1 e c d:Value){x:Nat}(a:x≠b):(io w b k f a1 e c d).heap[x]?=w.heap[x]?:=
 (vaw _ _ _ _ a).trans ((vaw _ _ _ _ a).trans ((vaw _ _ _ _ a).trans ((vaw _ _ _ _ a).trans (vaw _ _ _ _ a))))
def apu(w:aH)(b k:Nat)(e a1 d a c:Value):KeepsOthers w (io w b k e a1 d a c):=
 ((((vcz _ _ _).trans (vcz _ _ _)).trans (vcz _ _ _)).trans (vcz _ _ _)).trans (vcz _ _ _)
def apv(h:ag w b cs T){Y:ubn}(i:¬Y T)(k:Nat)(g a1 f a d:Value):iq Y w (io w b k g a1 f a d):=
 ⟨BR,λx c e z j y=>by
  grind[ag,NR]⟩
def Zc(w:aH)(hn:n<=b)(k:Nat)(e a1 d a c:Value):Below n w (io w b k e a1 d a c):=
 (((((vaa n w).setCell (p:=⟨b,_,none⟩) hn _).setCell (p:=⟨b,_,none⟩) hn _).setCell (p:=⟨b,_,none⟩) hn _).setCell (p:=⟨b,_,none⟩) hn _).setCell (p:=⟨b,_,none⟩) hn _
def vO.congr{l:fK}{D:Nat->Nat->bw}{m a:uas}{L:List eV}(h:vO l D m L cs)(b:∀i,i<l.length->m i=a i):vO l D a L cs:=
 ⟨h.size,λi hi=>by rw[<-b i hi];exact h.JZ i hi,h.Dd⟩
def uz(t:ubj)(D:Nat->bw)(n:Nat):bo:=
 ⟨t.1,t.2,if t.1=3 then []else(List.range n).map λr=>(D r).num,if t.1=3 then(List.range n).map λr=>(D r).text else [],(List.range n).map λr=>(D r).dL⟩
def pn(l:fK)(D:Nat->Nat->bw)(n:Nat):List bo:=(List.range l.length).map λi=>uz (l[i]?.getD (0,0)) (D · i) n
variable{B:Nat}{W:aH}{e:uab}
def J0{ao:Type}{R:aH->(Nat->Option Value)->ao->Prop}{xs:uaj}{a:List ao}(h:W.ownsRow B e 1 v xs.length xs)(b:a.length=xs.length)(m:∀i(h:i<a.length),∀rd:Nat->Option Value,rd 0=some (xs[i]'(b▸h))->R W rd a[i]):aZ W 1 R v a:=by
 obtain⟨-,⟨hv,hn⟩|⟨g,cap,bq,hv,-,k,j,n,-,d⟩⟩:=h
 .grind[aZ.nil]
 .refine⟨_,_,by rw[hv,b],H0,λi hi=>⟨_,_,rfl,m i hi _ ?_⟩⟩;have f:i<xs.length:=b▸hi;have l:xs[i]?=some xs[i]:=vat f;have c:(bq.toList.take (xs.length*1))[i]?=xs[i]?:=by rw[d]
  rw[List.getElem?_take_of_lt AP,Array.getElem?_toList]at c;have b0:ag W g bq e:=k;show W.cell? (.a g (0+i*1+0))=_;rw[b0.rules.1,show 0+i*1+0=i by omega,c,l]
def vQ(w:aH)(v:Value)(e:uab):Prop:=∀b,v.ownBlock=some b->∃c z,w.heap[b]?=some (.cells c e z)
def rj{xs:uaj}(h:W.ownsRow B e 1 v n xs):vQ W v e:=by
 intro b a;obtain⟨-,⟨hv,-⟩|⟨g,cap,bq,hv,-,c,-⟩⟩:=h
 .rw[hv]at a;cases a
 .rw[hv]at a;cases a;grind
def apw(w:aH)(rd:uaq)(c:bo):Prop:=
 ∃c7 vs bS,rd 0=some (.I c.kind)/\rd 1=some (.I c.eK)/\rd 2=some c7/\rd 3=some vs/\rd 4=some bS/\xd w c7 vs bS c/\vQ w c7 2/\vQ w vs 9/\vQ w bS 4
def l6(w:aH)(v:Value)(t:List bo):Prop:=aZ w 5 apw v t/\vQ w v 34
def l6.bl{t:List bo}(h:l6 w v t):nO w v t:=by obtain⟨⟨j,cap,hv,a,l⟩,-⟩:=h;refine⟨j,cap,hv,a,λi hi=>?_⟩;obtain⟨b,off,c,c7,vs,k,h0,g,f,e,d,m,-⟩:=l i hi;exact⟨b,off,c,c7,vs,k,h0,g,f,e,d,m⟩
def qh(e:uab):Prop:=e=34\/e=2\/e=9\/e=4
variable{w':aH}
theorem Zb(hk:iq qh w w'){c:Nat}{off:Nat}(ht:vQ w (.S b off l c) e)(a:qh e)(o:Nat):w'.cell? (.a b o)=w.cell? (.a b o):=by obtain⟨cs,z,h⟩:=ht b rfl;have:=hk.cells _ _ _ _ h a;grind[World.cell?]
def TP{ao:Type}{R:aH->(Nat->Option Value)->ao->Prop}(f:∀w w' rd a x,(∀j v,rd j=some v->a j=some v)->R w rd x->R w' a x)(hk:iq qh w w')(ht:vQ w v e)(d:qh e){xs:List ao}(h:aZ w 1 R v xs):aZ w' 1 R v xs:=by obtain⟨c,cap,rfl,b,g⟩:=h;refine⟨c,cap,rfl,b,λi hi=>?_⟩;grind[Zb]
def l6.kept{t:List bo}(hk:iq qh w w')(h:l6 w v t):l6 w' v t:=by
 obtain⟨⟨s,cap,rfl,m,y⟩,ht⟩:=h;have hd:∀{v e},qh e->vQ w v e->vQ w' v e:=λk h b n=>by obtain⟨c,z,d⟩:=h b n;exact⟨c,z,hk.cells _ _ _ _ d k⟩
 refine⟨⟨s,cap,rfl,m,λi hi=>?_⟩,hd LF ht⟩;obtain⟨b,off,rfl,c7,vs,u,h0,d,r,q,p,f,j,d_,g⟩:=y i hi;have key:∀o x,w.cell? (.a b o)=some x->w'.cell? (.a b o)=some x:=λo x l=>(Zb hk ht LF o).trans l;exact⟨b,off,rfl,c7,vs,u,key _ _ h0,key _ _ d,key _ _ r,key _ _ q,key _ _ p,⟨TP (R:=rQ) (λ_ _ _ _ _ a h=>a _ _ h) hk j (.inr LF) f.ko,TP (R:=IM) (λ_ _ _ _ _ a h=>⟨a _ _ h.1,h.2⟩) hk d_ (.inr AJ) f.kJ,TP (R:=Ch) (λ_ _ _ _ _ a h=>a _ _ h) hk g (.inr AJ) f.gZ⟩,hd (.inr LF) j,hd (.inr AJ) d_,hd (.inr AJ) g⟩
def apx{m:Nat}{l:fK}{D:Nat->Nat->bw}{V:aH}{L:List eV}(a:eQ B V L)(o:vO l D (λ_=>n) L cs)(c:ag V m cs 34)(v:l.length<=1000)(ht:∀r i,r<n->i<l.length->(D r i).text.size<=1000000):
 l6 V (.S m 0 l.length l.length) (pn l D n):=by
 have k:(pn l D n).length=l.length:=by simp[pn]
 refine⟨⟨_,_,by rw[k],AP,λi hi=>⟨_,_,rfl,?_⟩⟩,λb h=>by cases h;exact⟨_,_,c⟩⟩;rw[k]at hi;have p:(pn l D n)[i]'AP=uz l[i] (D · i) n:=by simp[pn,hi]
 rw[p];obtain⟨c7,vs,e,u,a1,t,q,s,fO,g,f⟩:=o.JZ i hi;refine⟨c7,vs,e,?_,?_,?_,?_,?_,⟨?_,?_,?_⟩,rj (show V.ownsRow _ 2 1 c7 (pk l[i].1 (D · i) n).length _ from a.at fO),rj (show V.ownsRow _ 9 1 vs (pm l[i].1 (D · i) n).length _ from a.at g),rj (show V.ownsRow _ 4 1 e (tj (D · i) n).length _ from a.at f)⟩
 .show V.cell? _=_;rw[c.rules.1,show 0+i*5+0=i*5 by omega,u];rfl
 .show V.cell? _=_;rw[c.rules.1,show 0+i*5+1=i*5+1 by omega,a1];rfl
 .show V.cell? _=_;rw[c.rules.1,show 0+i*5+2=i*5+2 by omega,t]
 .show V.cell? _=_;rw[c.rules.1,show 0+i*5+3=i*5+3 by omega,q]
 .show V.cell? _=_;rw[c.rules.1,show 0+i*5+4=i*5+4 by omega,s]
 .refine J0 (show V.ownsRow _ 2 1 c7 (pk l[i].1 (D · i) n).length _ from a.at fO) ?_ ?_
  .grind[uz,pk]
  .intro j d rd h0;by_cases hk:l[i].1=3
   .grind[uz]
   .simp[uz,pk,hk]at h0⊢;exact h0
 .refine J0 (show V.ownsRow _ 9 1 vs (pm l[i].1 (D · i) n).length _ from a.at g) ?_ ?_
  .grind[uz,pm]
  .intro j d rd h0;by_cases hk:l[i].1=3
   .simp[uz,hk]at d;simp[uz,pm,hk]at h0⊢;exact⟨h0,AJ⟩
   grind[uz]
 .refine J0 (show V.ownsRow _ 4 1 e (tj (D · i) n).length _ from a.at f) ?_ ?_
  .simp[uz,tj]
  .intro j d rd h0;simp[uz,tj]at h0⊢;exact h0
end bM
namespace bU
open RowKit au bM
def Y0:vef.funcs[(151:Nat)]?=some f151:=veb func151
@[simp] theorem aGb:dk false 151:=cq Y0 AM
theorem YP:vef.funcs[(152:Nat)]?=some f152:=veb func152
@[simp] theorem aGc:dk false 152:=cq YP AM
theorem TQ:vef.funcs[(137:Nat)]?=some f137:=veb func137
@[simp] theorem aGd:dk false 137:=cq TQ AM
theorem TR:vef.funcs[(138:Nat)]?=some f138:=veb func138
@[simp] theorem aGe:dk false 138:=cq TR AM
theorem YN:vef.funcs[(136:Nat)]?=some f136:=veb func136
@[simp] theorem aGf:dk false 136:=cq YN AM
theorem YM:vef.funcs[(121:Nat)]?=some f121:=veb func121
@[simp] theorem aGg:dk false 121:=cq YM AM
def qi(a b:Int):Int:=if a<b then -1 else if b<a then 1 else 0
def J1(a b:ByteArray):Int:=if Op.bytesLess a.toList b.toList then -1 else if !Op.bytesLess a.toList b.toList&& !(a.toList==b.toList)then 1 else 0
def YC(a:Int)(w:aH):Calls vef 151 #[.I a] w λe w'=>e=.returned (.F)/\w'=w:=by
 go_enter Y0,ntmps151
 go_wp2
 go_ret
 simp
def Yz(a:ByteArray)(w:aH):Calls vef 152 #[.string a] w λe w'=>e=.returned (.F)/\w'=w:=by
 go_enter YP,ntmps152
 go_wp2
 go_ret
 simp
def apy(a b:Int)(w:aH):Calls vef 137 #[.I a,.I b] w λe w'=>e=.returned (.I (qi a b))/\w'=w:=by
 unfold qi;by_cases c:a<b
 .simp only[c,vbr];go_enter TQ,ntmps137
  go_wp2_with (go_at_call 151;refine(YC _ _).mono ?_;rintro e w' ⟨rfl,rfl⟩)
  go_ret
  simp
 .by_cases d:b<a;focus
   simp only[c,d,vbr,vbv]
  rotate_left
  focus
   simp only[c,d,vbv]
  rotate_left
  all_goals
   go_enter TQ,ntmps137
   go_wp2_with (go_at_call 151;refine(YC _ _).mono ?_;rintro e w' ⟨rfl,rfl⟩)
   go_ret
   simp
def apz(a b:ByteArray)(w:aH):Calls vef 138 #[.string a,.string b] w λe w'=>e=.returned (.I (J1 a b))/\w'=w:=by
 unfold J1;by_cases c:Op.bytesLess a.toList b.toList=true
 .simp only[c,vbr];go_enter TR,ntmps138
  go_wp2_with (go_at_call 152;refine(Yz _ _).mono ?_;rintro e w' ⟨rfl,rfl⟩)
  go_ret
  simp
 .have c:Op.bytesLess a.toList b.toList=false:=by grind
  by_cases d:(a.toList==b.toList)=true;focus
   simp only[c,d,Bool.not_true,Bool.and_false,vaf,vbv]
  rotate_left
  focus
   have d:(a.toList==b.toList)=false:=AJ;simp only[c,d,Bool.not_false,Bool.and_true,vaf,vbv,vbr]
  rotate_left
  all_goals
   go_enter TR,ntmps138
   go_wp2_with (go_at_call 152;refine(Yz _ _).mono ?_;rintro e w' ⟨rfl,rfl⟩)
   go_ret
   simp
def NS(x y:Int):Int:=if x≠0 then x else y
def apA(b:Nat)(x y:Int)(w:aH)(h0:w.cell? (.a b 0)=some (.I x))(f:w.cell? (.a b 1)=some (.I y)):Calls vef 136 #[.S b 0 2 2] w λe w'=>e=.returned (.I (NS x y))/\w'=w:=by
 unfold NS;have d:=fB h0;go_enter YN,ntmps136
 go_wp2
 go_loopw [8] (λi W=>∃k:Nat,k<=2/\i=.I (k:Int)/\W=w/\(1<=k->x=0)/\(k=2->y=0)) (λi _=>2-(intOf i).toNat)
 case atStart=>grind
 case round=>
  obtain⟨k,hk,rfl,rfl,a,c⟩:=hrel;obtain rfl|rfl|rfl:k=0\/k=1\/k=2:=AP
  .by_cases a:x=0
   .subst a;go_wp2
    go_roundw
    case rel=>grind
    case measure=>simp[intOf]
   .go_wp2
    go_ret
    simp
  .obtain rfl:=a AP;by_cases c:y=0
   .subst c;go_wp2
    go_roundw
    case rel=>grind
    case measure=>simp[intOf]
   .go_wp2
    go_ret
    simp
  .obtain rfl:=a AP;obtain rfl:=c rfl;go_wp2
   go_ret
   simp
def uA(l r:bw):Int:=NS (qi l.num r.num) (J1 l.text r.text)
def Yt(l r:bw)(w:aH):Calls vef 121 #[du l,du r] w λe w'=>e=.returned (.I (uA l r))/\cy w w':=by
 obtain⟨f,b,ls,lt⟩:=l;obtain⟨g,d,rs,rt⟩:=r;unfold uA;simp only;go_enter YM,ntmps121
 go_upto_region 1 with fail
 have cu:=(ag.new w #[.bool f,.I b,.I ls,.string lt] 96).alloc (.cells #[.bool g,.I d,.I rs,.string rt] 96);have dr:=ag.new (w.alloc (.cells #[.bool f,.I b,.I ls,.string lt] 96)) #[.bool g,.I d,.I rs,.string rt] 96;have o:Hid (cy w ((w.alloc (.cells #[.bool f,.I b,.I ls,.string lt] 96)).alloc (.cells #[.bool g,.I d,.I rs,.string rt] 96)).drew):=(((vaa _ w).alloc Kj _).alloc AQ _).drew;have p:Hid (((w.alloc (.cells #[.bool f,.I b,.I ls,.string lt] 96)).alloc (.cells #[.bool g,.I d,.I rs,.string rt] 96)).heap.size=w.heap.size+1+1):=by unfold Hid;simp
 simp only[World.size_alloc]at dr;have HC:Hid (ag ((w.alloc (.cells #[.bool f,.I b,.I ls,.string lt] 96)).alloc (.cells #[.bool g,.I d,.I rs,.string rt] 96)).drew w.heap.size #[.bool f,.I b,.I ls,.string lt] 96/\ag ((w.alloc (.cells #[.bool f,.I b,.I ls,.string lt] 96)).alloc (.cells #[.bool g,.I d,.I rs,.string rt] 96)).drew (w.heap.size+1) #[.bool g,.I d,.I rs,.string rt] 96):=⟨cu,dr⟩;clear cu dr;generalize(w.alloc (.cells #[.bool f,.I b,.I ls,.string lt] 96)).alloc (.cells #[.bool g,.I d,.I rs,.string rt] 96)=q at *;refine wpIn_wide.1 (vcr (n:=0) AS (Bd (C:=λW=>ag W w.heap.size #[.bool f,.I b,.I ls,.string lt] 96/\ag W (w.heap.size+1) #[.bool g,.I d,.I rs,.string rt] 96) _ _ _ _ ?_));refine lh (i:=0) (v:=.P w.heap.size 1) rfl AS AS AS K3 HC.out ⟨A_,λW a=>A0,(λc h=>nomatch h),λ_=>rfl⟩ ?_;refine lh (i:=2) (v:=.P (w.heap.size+1) 1) rfl AS AS AS K3 HC.out ⟨A_,λW a=>A0,(λc h=>nomatch h),λ_=>rfl⟩ ?_;refine lh (i:=5) (v:=.P w.heap.size 3) rfl AS AS AS K3 HC.out ⟨A_,λW a=>A0,(λc h=>nomatch h),λ_=>rfl⟩ ?_;refine lh (i:=7) (v:=.P (w.heap.size+1) 3) rfl AS AS AS K3 HC.out ⟨A_,λW a=>A0,(λc h=>nomatch h),λ_=>rfl⟩ ?_;refine lh (i:=1) (v:=.I b) rfl AS AS AS K3 HC.out ⟨A_,λW a=>by obtain⟨k,m,j⟩:=a.1.all;go_simp,(λc h=>nomatch h),λ_=>rfl⟩ ?_;refine lh (i:=3) (v:=.I d) rfl AS AS AS K3 HC.out ⟨A_,λW a=>by obtain⟨k,m,j⟩:=a.2.all;go_simp,(λc h=>nomatch h),λ_=>rfl⟩ ?_;refine lh (i:=6) (v:=.string lt) rfl AS AS AS K3 HC.out ⟨A_,λW a=>by obtain⟨k,m,j⟩:=a.1.all;go_simp,(λc h=>nomatch h),λ_=>rfl⟩ ?_;refine lh (i:=8) (v:=.string rt) rfl AS AS AS K3 HC.out ⟨A_,λW a=>by obtain⟨k,m,j⟩:=a.2.all;go_simp,(λc h=>nomatch h),λ_=>rfl⟩ ?_;refine ir (i:=4) AS rfl λK hK=>?_;go_simp
 refine⟨PA,rfl,(callsIn_wide.2 (apy _ _ _)).mono ?_⟩;rintro e w' ⟨rfl,rfl⟩;refine hK _ _ HC.out ?_;clear hK K;refine ir (i:=9) AS rfl λK hK=>?_;go_simp
 refine⟨PA,rfl,(callsIn_wide.2 (apz _ _ _)).mono ?_⟩;rintro e w' ⟨rfl,rfl⟩;refine hK _ _ HC.out ?_;clear hK K;refine ir (i:=10) AS rfl λK hK=>?_;go_simp
 refine hK _ _ ⟨HC.out.1.alloc _,HC.out.2.alloc _⟩ ?_;clear hK K;refine ir (i:=11) AS rfl λK hK=>?_;go_simp
 refine⟨PA,rfl,(callsIn_wide.2 (apA _ (qi b d) (J1 lt rt) _ A0 A0)).mono ?_⟩;rintro e w' ⟨rfl,rfl⟩;refine hK _ _ ⟨HC.out.1.alloc _,HC.out.2.alloc _⟩ ?_;clear hK K;refine ir (i:=12) AS rfl λK hK=>?_;go_simp
 refine hK _ _ ⟨HC.out.1.alloc _,HC.out.2.alloc _⟩ ?_;clear hK K;refine De AS ?_ _;go_wp2
 go_ret
 exact⟨rfl,o.out.alloc o.out.size _⟩
def TS:vef.funcs[(170:Nat)]?=some f170:=veb func170
@[simp] theorem aGh:dk false 170:=cq TS AM
theorem TT:vef.funcs[(175:Nat)]?=some f175:=veb func175
@[simp] theorem aGi:dk false 175:=cq TT AM
theorem TU:vef.funcs[(182:Nat)]?=some f182:=veb func182
@[simp] theorem aGj:dk false 182:=cq TU AM
theorem GD:vef.funcs[(185:Nat)]?=some f185:=veb func185
@[simp] theorem aGk:dk false 185:=cq GD AM
def j8(b:Bool):bw:=⟨false,bif b then 1 else 0,0,iS⟩
def Df(d:bw):Bool:= !d.dL&&d.num==0
def rk(d:bw):Bool:= !d.dL&&d.num==1
def NT(l r:bw):bw:=if Df l||Df r then j8 false else if l.dL||r.dL then g4 else j8 true
def y8(d:bw){b:Bool}(a:Df d=b)(w:aH):Calls vef 170 #[du d] w λe w'=>e=.returned (.bool b)/\w'=w.alloc (.cells #[.bool d.dL,.I d.num,.I d.eK,.string d.text] 96):=by
 subst a;obtain⟨bJ,c,ds,f⟩:=d;cases bJ with
 |true=>
  go_enter TS,ntmps170
  go_wp2
  go_ret
  simp[Df]
 |false=>
  go_enter TS,ntmps170
  go_wp2
  go_ret
  simp[Df]
def Yr(d:bw){b:Bool}(a:rk d=b)(w:aH):Calls vef 175 #[du d] w λe w'=>e=.returned (.bool b)/\w'=w.alloc (.cells #[.bool d.dL,.I d.num,.I d.eK,.string d.text] 96):=by
 subst a;obtain⟨bJ,c,ds,f⟩:=d;cases bJ with
 |true=>
  go_enter TT,ntmps175
  go_wp2
  go_ret
  simp[rk]
 |false=>
  go_enter TT,ntmps175
  go_wp2
  go_ret
  simp[rk]
def Dg(b:Bool)(w:aH):Calls vef 182 #[.bool b] w λe w'=>e=.returned (du (j8 b))/\cy w w':=by
 cases b with
 |true=>
  go_enter TU,ntmps182
  go_wp2
  exact vai (v:=du (j8 true)) (by simp[results,results182,go_sem,j8,iS]) rfl ⟨rfl,KG⟩
 |false=>
  go_enter TU,ntmps182
  go_wp2
  exact vai (v:=du (j8 false)) (by simp[results,results182,go_sem,j8,iS]) rfl ⟨rfl,KG⟩
def rl{w w':aH}{b:Nat}(h:ag w' b #[.F,.I 0,.I 0,.E] 96)(a:w.heap.size<=b)(c:cy w w')(d:bw):
 ag ((((w'.setCell ⟨b,0,none⟩ (.bool d.dL)).setCell ⟨b,1,none⟩ (.I d.num)).setCell ⟨b,2,none⟩ (.I d.eK)).setCell ⟨b,3,none⟩ (.string d.text)) b #[.bool d.dL,.I d.num,.I d.eK,.string d.text] 96/\cy w ((((w'.setCell ⟨b,0,none⟩ (.bool d.dL)).setCell ⟨b,1,none⟩ (.I d.num)).setCell ⟨b,2,none⟩ (.I d.eK)).setCell ⟨b,3,none⟩ (.string d.text)):=
 ⟨by simpa using(((h.set 0 (.bool d.dL)).set 1 (.I d.num)).set 2 (.I d.eK)).set 3 (.string d.text),(((c.setCell a _).setCell a _).setCell a _).setCell a _⟩
def GF(w:aH):Calls vef 187 #[] w λe w'=>e=.returned (du g4)/\cy w w':=(vr w).mono λ_ _ h=>⟨h.1,h.2▸(vaa _ _).alloc (vad _) _⟩
def apB(l r:bw)(w:aH):Calls vef 185 #[du l,du r] w λe w'=>e=.returned (du (NT l r))/\cy w w':=by
 unfold NT;have c:∀(k j p:Obj),cy w (((w.alloc k).alloc j).alloc p):=λk j p=>(((vaa _ w).alloc Kj _).alloc AQ _).alloc An _;have d:∀(k j:Obj),ag (((w.alloc k).alloc j).alloc (.cells #[.F,.I 0,.I 0,.E] 96)) (w.heap.size+1+1) #[.F,.I 0,.I 0,.E] 96:=λk j=>by simpa using ag.new ((w.alloc k).alloc j) #[.F,.I 0,.I 0,.E] 96
 obtain⟨q,t,ls,lt⟩:=l;obtain⟨s,u,rs,rt⟩:=r;cases m:Df ⟨q,t,ls,lt⟩with
 |true=>
  simp only[Bool.true_or,vbr];go_enter GD,ntmps185
  go_wp2_with (go_at_call 170;refine(y8 _ m _).mono ?_;rintro e w' ⟨rfl,rfl⟩)
  refine(Dg false _).mono ?_;rintro e w1 ⟨rfl,a⟩;have b:Hid (ag w1 (w.heap.size+1+1) #[.F,.I 0,.I 0,.E] 96):=((d _ _).alloc _).call a;have i:Hid (cy w w1):=Below.step a ((c _ _ _).alloc An _) An;obtain⟨db,f3,o⟩:=b.out.all;clear a c d;go_wp2
  obtain⟨g,h⟩:=rl b.out AP i.out (j8 false);have f:=g.rules.1;exact vai (v:=du (j8 false)) C2 rfl ⟨rfl,h⟩
 |false=>
  cases n:Df ⟨s,u,rs,rt⟩with
  |true=>
   simp only[Bool.or_true,vbr];go_enter GD,ntmps185
   go_wp2_with (go_at_call 170;first|(refine(y8 _ m _).mono ?_;rintro e w' ⟨rfl,rfl⟩)|(refine(y8 _ n _).mono ?_;rintro e w' ⟨rfl,rfl⟩))
   refine(Dg false _).mono ?_;rintro e w1 ⟨rfl,a⟩;have b:Hid (ag w1 (w.heap.size+1+1) #[.F,.I 0,.I 0,.E] 96):=(((d _ _).alloc _).alloc _).call a;have i:Hid (cy w w1):=Below.step a (((c _ _ _).alloc An _).alloc An _) An;obtain⟨db,f3,o⟩:=b.out.all;clear a c d;go_wp2
   obtain⟨g,h⟩:=rl b.out AP i.out (j8 false);have f:=g.rules.1;exact vai (v:=du (j8 false)) C2 rfl ⟨rfl,h⟩
  |false=>
   simp only[Bool.or_false,vaf,vbv];cases q with
   |true=>
    simp only[Bool.true_or,vbr];go_enter GD,ntmps185
    go_wp2_with (go_at_call 170;first|(refine(y8 _ m _).mono ?_;rintro e w' ⟨rfl,rfl⟩)|(refine(y8 _ n _).mono ?_;rintro e w' ⟨rfl,rfl⟩))
    refine(GF _).mono ?_;rintro e w1 ⟨rfl,a⟩;have b:Hid (ag w1 (w.heap.size+1+1) #[.F,.I 0,.I 0,.E] 96):=(((d _ _).alloc _).alloc _).call a;have i:Hid (cy w w1):=Below.step a (((c _ _ _).alloc An _).alloc An _) An;obtain⟨db,f3,o⟩:=b.out.all;clear a c d;go_wp2
    obtain⟨g,h⟩:=rl b.out AP i.out (g4);have f:=g.rules.1;exact vai (v:=du (g4)) C2 rfl ⟨rfl,h⟩
   |false=>
    cases s with
    |true=>
     simp only[Bool.or_true,vbr];go_enter GD,ntmps185
     go_wp2_with (go_at_call 170;first|(refine(y8 _ m _).mono ?_;rintro e w' ⟨rfl,rfl⟩)|(refine(y8 _ n _).mono ?_;rintro e w' ⟨rfl,rfl⟩))
     refine(GF _).mono ?_;rintro e w1 ⟨rfl,a⟩;have b:Hid (ag w1 (w.heap.size+1+1) #[.F,.I 0,.I 0,.E] 96):=(((d _ _).alloc _).alloc _).call a;have i:Hid (cy w w1):=Below.step a (((c _ _ _).alloc An _).alloc An _) An;obtain⟨db,f3,o⟩:=b.out.all;clear a c d;go_wp2
     obtain⟨g,h⟩:=rl b.out AP i.out (g4);have f:=g.rules.1;exact vai (v:=du (g4)) C2 rfl ⟨rfl,h⟩
    |false=>
     simp only[Bool.or_false,vaf,vbv];go_enter GD,ntmps185
     go_wp2_with (go_at_call 170;first|(refine(y8 _ m _).mono ?_;rintro e w' ⟨rfl,rfl⟩)|(refine(y8 _ n _).mono ?_;rintro e w' ⟨rfl,rfl⟩))
     refine(Dg true _).mono ?_;rintro e w1 ⟨rfl,a⟩;have b:Hid (ag w1 (w.heap.size+1+1) #[.F,.I 0,.I 0,.E] 96):=(((d _ _).alloc _).alloc _).call a;have i:Hid (cy w w1):=Below.step a (((c _ _ _).alloc An _).alloc An _) An;obtain⟨db,f3,o⟩:=b.out.all;clear a c d;go_wp2
     obtain⟨g,h⟩:=rl b.out AP i.out (j8 true);have f:=g.rules.1;exact vai (v:=du (j8 true)) C2 rfl ⟨rfl,h⟩
def apD:vef.funcs[(180:Nat)]?=some f180:=veb func180
@[simp] theorem aGl:dk false 180:=cq apD AM
theorem sj:vef.funcs[(181:Nat)]?=some f181:=veb func181
@[simp] theorem apE:dk false 181:=cq sj AM
abbrev vh(t:bH):Value:=.agg #[.I t.op,.I t.a,.I t.v,.string t.s]
def my(op:Int)(l r:bw):bw:=if op=12 then NT l r else if l.dL||r.dL then g4 else if op=9 then j8 (uA l r==0)else j8 (decide (uA l r<0))
def Yk(m:Value)(op:Int)(l r:bw)(w:aH)(C:op=9\/op=10\/op=12):
 Calls vef 181 #[m,.I op,du l,du r] w λe w'=>e=.returned (du (my op l r))/\cy w w':=by
 have c:∀(j n B:Obj),cy w (((w.alloc j).alloc n).alloc B):=λj n B=>(((vaa _ w).alloc Kj _).alloc AQ _).alloc An _;have d:∀(j n:Obj),ag (((w.alloc j).alloc n).alloc (.cells #[.F,.I 0,.I 0,.E] 96)) (w.heap.size+1+1) #[.F,.I 0,.I 0,.E] 96:=λj n=>by simpa using ag.new ((w.alloc j).alloc n) #[.F,.I 0,.I 0,.E] 96
 obtain⟨y,s,ls,lt⟩:=l;obtain⟨z,t,rs,rt⟩:=r;by_cases E:op=12
 .subst E;simp only[my,vbr];generalize o:NT ⟨y,s,ls,lt⟩ ⟨z,t,rs,rt⟩=D;have A:=λW=>o▸apB ⟨y,s,ls,lt⟩ ⟨z,t,rs,rt⟩ W;clear o;go_enter sj,ntmps181
  go_wp2
  refine(A _).mono ?_;rintro e w1 ⟨rfl,a⟩;have b:Hid (ag w1 (w.heap.size+1+1) #[.F,.I 0,.I 0,.E] 96):=(d _ _).call a;have i:Hid (cy w w1):=Below.step a (c _ _ _) An;obtain⟨db,f3,u⟩:=b.out.all;clear a c d;go_wp2
  obtain⟨g,h⟩:=rl b.out AP i.out (D);have f:=g.rules.1;exact vai (v:=du (D)) C5 rfl ⟨rfl,h⟩
 .have C:op=9\/op=10:=by omega
  have j:op≠13:=AP;simp only[my,E,vbv];cases y with
  |true=>
   simp only[Bool.true_or,vbr];go_enter sj,ntmps181
   go_wp2
   refine(GF _).mono ?_;rintro e w1 ⟨rfl,a⟩;have b:Hid (ag w1 (w.heap.size+1+1) #[.F,.I 0,.I 0,.E] 96):=(d _ _).call a;have i:Hid (cy w w1):=Below.step a (c _ _ _) An;obtain⟨db,f3,u⟩:=b.out.all;clear a c d;go_wp2
   obtain⟨g,h⟩:=rl b.out AP i.out (g4);have f:=g.rules.1;exact vai (v:=du (g4)) C5 rfl ⟨rfl,h⟩
  |false=>
   cases z with
   |true=>
    simp only[Bool.or_true,vbr];go_enter sj,ntmps181
    go_wp2
    refine(GF _).mono ?_;rintro e w1 ⟨rfl,a⟩;have b:Hid (ag w1 (w.heap.size+1+1) #[.F,.I 0,.I 0,.E] 96):=(d _ _).call a;have i:Hid (cy w w1):=Below.step a (c _ _ _) An;obtain⟨db,f3,u⟩:=b.out.all;clear a c d;go_wp2
    obtain⟨g,h⟩:=rl b.out AP i.out (g4);have f:=g.rules.1;exact vai (v:=du (g4)) C5 rfl ⟨rfl,h⟩
   |false=>
    simp only[Bool.or_false,vaf,vbv];generalize o:uA ⟨false,s,ls,lt⟩ ⟨false,t,rs,rt⟩=D;have q:=λW=>o▸Yt ⟨false,s,ls,lt⟩ ⟨false,t,rs,rt⟩ W;clear o;rcases C with rfl|rfl
    .simp only[vbr];go_enter sj,ntmps181
     go_wp2
     refine(q _).mono ?_;rintro e w2 ⟨rfl,k⟩;have x:Hid (ag w2 (w.heap.size+1+1) #[.F,.I 0,.I 0,.E] 96):=(d _ _).call k;have p:Hid (cy w w2):=Below.step k (c _ _ _) An;clear k q d c;go_wp2
     refine(Dg (D==0) _).mono ?_;rintro e w1 ⟨rfl,a⟩;have b:Hid (ag w1 (w.heap.size+1+1) #[.F,.I 0,.I 0,.E] 96):=x.out.call a;have i:Hid (cy w w1):=Below.step a p.out p.out.size;obtain⟨db,f3,u⟩:=b.out.all;clear a;go_wp2
     obtain⟨g,h⟩:=rl b.out AP i.out (j8 (D==0));have f:=g.rules.1;exact vai (v:=du (j8 (D==0))) C5 rfl ⟨rfl,h⟩
    .simp only[Int.reduceEq,vbv];go_enter sj,ntmps181
     go_wp2
     refine(q _).mono ?_;rintro e w2 ⟨rfl,k⟩;have x:Hid (ag w2 (w.heap.size+1+1) #[.F,.I 0,.I 0,.E] 96):=(d _ _).call k;have p:Hid (cy w w2):=Below.step k (c _ _ _) An;clear k q d c;go_wp2
     refine(Dg (decide (D<0)) _).mono ?_;rintro e w1 ⟨rfl,a⟩;have b:Hid (ag w1 (w.heap.size+1+1) #[.F,.I 0,.I 0,.E] 96):=x.out.call a;have i:Hid (cy w w1):=Below.step a p.out p.out.size;obtain⟨db,f3,u⟩:=b.out.all;clear a;go_wp2
     obtain⟨g,h⟩:=rl b.out AP i.out (j8 (decide (D<0)));have f:=g.rules.1;exact vai (v:=du (j8 (decide (D<0)))) C5 rfl ⟨rfl,h⟩
end bU
namespace bU
open RowKit au
def X_:vef.funcs[(178:Nat)]?=some f178:=veb func178
@[simp] theorem aGm:dk false 178:=cq X_ AM
def Be(ds:List bw):List Value:=ds.flatMap λd=>[.bool d.dL,.I d.num,.I d.eK,.string d.text]
theorem X7(ds:List bw)(d:bw):Be (ds++[d])=Be ds++[.bool d.dL,.I d.num,.I d.eK,.string d.text]:=by simp[Be]
variable{w:aH}{g:Nat}{e:uab}
theorem J2{b:Nat}{cs bq:fi}{T:uab}(h:ag w b cs T)(hg:w.heap[g]?=some (.cells bq e (0,0)))(a:T≠e):b≠g:=by rintro rfl;simp_all[ag]
variable{n size:Nat}{v:Value}
theorem NU{base:Nat}{xs:uaj}(h:w.ownsRow base e size v n xs)(hg:v.ownBlock=some g):∃bq,w.heap[g]?=some (.cells bq e (0,0)):=by
 rcases h.2 with⟨rfl,_⟩|⟨g',cap,bq,rfl,_,a,_⟩
 .simp[Value.ownBlock]at hg
 grind[Value.ownBlock]
theorem MX{base:Nat}{xs:uaj}(h:w.ownsRow base e size v n xs){a:Addr}(b:∀g,v.ownBlock=some g->g≠a.block)(u:Value):(w.setCell a u).ownsRow base e size v n xs:=by refine⟨h.1,h.2.imp_right ?_⟩;rintro⟨g,cap,bq,rfl,f,d,c⟩;exact⟨g,cap,bq,rfl,f,by rw[vaw _ _ _ _ (b g rfl)];exact d,c⟩
structure lj(B m:Nat)(pv cI:Value)(ds:List bw)(W:aH):Prop where
 ge:B<=m
 own:∃sv,ag W m #[pv,cI,sv] 271/\W.ownsRow B 96 4 sv ds.length (Be ds)
variable{B m:Nat}{cI pv:Value}{ds:List bw}
theorem lj.call{W W':aH}(h:lj B m pv cI ds W)(a:cy W W'):lj B m pv cI ds W':=by obtain⟨sv,c,b⟩:=h.own;exact⟨h.ge,sv,c.call a,FZ b a⟩
def X5(h:lj B m pv cI ds w)(M:B<=w.heap.size)(hn:ds.length<=1000000)(d:bw):
 Calls vef 178 #[.P m 0,du d] w λe w'=>e=.returned (.tuple #[])/\lj B m pv cI (ds++[d]) w'/\Below B w w':=by
 obtain⟨A,sv,x,i⟩:=h;obtain⟨sa,k,rfl⟩:=qS i;have E:Hid (ag w m #[pv,cI,.slice sa ds.length k] 271):=x;obtain⟨bJ,b,a,c⟩:=d;go_enter X_,ntmps178
 go_upto_region 1 with fail
 have o:cy w (w.alloc (.cells #[.bool bJ,.I b,.I a,.string c] 96)):=(vaa _ _).alloc Kj _;have O:Hid (ag (w.alloc (.cells #[.bool bJ,.I b,.I a,.string c] 96)) w.heap.size #[.bool bJ,.I b,.I a,.string c] 96):=ag.new _ _ _;have C:Hid (ag (w.alloc (.cells #[.bool bJ,.I b,.I a,.string c] 96)) m #[pv,cI,.slice sa ds.length k] 271):=x.call o;have F:Hid _:=FZ i o;have D:Hid (cy w (w.alloc (.cells #[.bool bJ,.I b,.I a,.string c] 96))):=o;have V:Hid (B<=(w.alloc (.cells #[.bool bJ,.I b,.I a,.string c] 96)).heap.size):=by unfold Hid;simp;omega
 clear o x i E;generalize w.alloc (.cells #[.bool bJ,.I b,.I a,.string c] 96)=f at *;obtain⟨cu,dr,Z⟩:=C.out.all;obtain⟨Y,W,X⟩:=O.out.all;have n:Hid ((f.alloc (.cells #[.bool bJ,.I b,.I a,.string c] 96)).drew.ownsRow B 96 4 (.slice sa ds.length k) ds.length (Be ds)):=vcl F.out _;have J:Hid (∀j u,([.bool bJ,.I b,.I a,.string c]:uaj)[j]?=some u->(f.alloc (.cells #[.bool bJ,.I b,.I a,.string c] 96)).drew.cell? (.a f.heap.size j)=some u):=λj u t=>by simp_all
 have H:Hid ((f.alloc (.cells #[.bool bJ,.I b,.I a,.string c] 96)).drew.heap.size=f.heap.size+1):=BR;have z:Hid (B<=(f.alloc (.cells #[.bool bJ,.I b,.I a,.string c] 96)).drew.heap.size):=by grind[Hid]
 have I:Hid (∀u∈([.bool bJ,.I b,.I a,.string c]:uaj),u.oneCell'=true):=by intro u t;simp at t;rcases t with rfl|rfl|rfl|rfl<;>rfl
 have R:Hid (cy w (f.alloc (.cells #[.bool bJ,.I b,.I a,.string c] 96)).drew):=(D.out.alloc D.out.size _).drew;have p:Hid (ag (f.alloc (.cells #[.bool bJ,.I b,.I a,.string c] 96)).drew m #[pv,cI,.slice sa ds.length k] 271):=(C.out.alloc _).drew;go_region_law (refine MD Sw _ A_ _ _ A_ B _ _ _ A_ n.out f.heap.size 1 1 _ A_ rfl J.out I.out AP AP AP z.out (f.heap.size+1) H.out ?_;intro v r q T l S U;obtain⟨N,L,K⟩:=(p.out.grown l (λg hg=>by obtain⟨bq,s⟩:=NU n.out hg;exact J2 p.out s AU)).all)
 all_goals
  have y:ag q m #[pv,cI,.slice sa ds.length k] 271:=p.out.grown l (λg hg=>by obtain⟨bq,s⟩:=NU n.out hg;exact J2 p.out s AU);have Q:Hid (lj B m pv cI (ds++[⟨bJ,b,a,c⟩]) (q.setCell ⟨m,2,none⟩ (.S v 0 (ds.length+1) r))):=by refine⟨A,_,by simpa using y.set 2 (.S v 0 (ds.length+1) r),?_⟩;grind[X7,MX,NU,J2]
  have P:Hid (Below B w (q.setCell ⟨m,2,none⟩ (.S v 0 (ds.length+1) r))):=((R.out.mono M).grown l z.out (λg hg=>(World.ownsRow.lt n.out g hg).1)).setCell A _;clear T l S U N L K y;go_end0
  exact⟨rfl,Q.out,P.out⟩
def X3:vef.funcs[(177:Nat)]?=some f177:=veb func177
@[simp] theorem aGo:dk false 177:=cq X3 AM
def apH(m:Nat)(w w':aH):Prop:=∀(b:Nat)(cs:fi)(T:uab),b≠m->ag w b cs T->ag w' b cs T
def apI(ds:List bw):(Be ds).length=ds.length*4:=by induction ds with|nil=>rfl|cons a l b=>grind[Be,List.length_cons]
def TV{d:bw}(h:lj B m pv cI (ds++[d]) w)(u:B<=w.heap.size)(hn:ds.length<=1000000):
 Calls vef 177 #[.P m 0] w λe w'=>e=.returned (du d)/\lj B m pv cI ds w'/\Below B w w'/\apH m w w':=by
 obtain⟨i,sv,f,a⟩:=h;rw[List.length_append,List.length_singleton]at a;obtain⟨g,cap,rfl⟩:=ownsRow_succ a;obtain⟨bJ,k,j,l⟩:=d;have n:=apI ds;rw[X7]at a;have hg:=(World.ownsRow.lt a g rfl).2;have cz:=rT a (ds.length*4) (.bool bJ) AJ;have c1:=rT a (ds.length*4+1) (.I k) AJ;have co:=rT a (ds.length*4+2) (.I j) AJ;have db:=rT a (ds.length*4+3) (.string l) AJ;have r:ds.length+1<=cap:=by
  rcases a.2 with⟨h0,_⟩|⟨g',cap',bq,hv,_,_,x,_⟩
  .cases h0
  grind
 have p:Hid (ag w m #[pv,cI,.S g 0 (ds.length+1) cap] 271):=f;obtain⟨cu,dr,y⟩:=f.all;have q:Hid (w.ownsRow B 96 4 (.S g 0 ds.length cap) ds.length (Be ds)):=by have:=Y1 a ds.length AP;grind
 have z:Hid (g≠m):=by obtain⟨bq,t⟩:=NU a (g:=g) rfl;grind[J2]
 clear f a n;go_enter X3,ntmps177
 go_wp2
 refine vai (v:=du ⟨bJ,k,j,l⟩) (by simp[results,results177,go_sem]) rfl ⟨rfl,⟨i,_,((p.out.set 2 (.S g 0 ds.length cap)).alloc _).alloc _,?_⟩,?_,?_⟩
 .exact vcl (vcl (MX q.out (λg' s=>HI) _) _) _
 .exact(((vaa _ w).setCell i _).alloc An _).alloc An _
 .intro b cs T c o;exact((o.ek c _).alloc _).alloc _
def TX:vef.funcs[(179:Nat)]?=some f179:=veb func179
@[simp] theorem aGp:dk false 179:=cq TX AM
theorem apJ{vals:List bw}(h:lj B m pv cI ds w)(hv:j5 w cI vals)(t:bH)(i:Nat)(f:t.op=1)(c:t.a=i)(hi:i<vals.length):
 Calls vef 179 #[.P m 0,vh t] w λe w'=>e=.returned (du vals[i])/\cy w w':=by
 obtain⟨p,sv,j,b⟩:=h;obtain⟨x,cap,rfl,s,k⟩:=hv;obtain⟨g,off,rfl,cz,c1,co,db,-⟩:=k i hi;obtain⟨op,a,y,ts⟩:=t;simp only at f c;subst f;subst c;simp at cz;have hg:=fB cz;obtain⟨cu,dr,u⟩:=j.all;generalize vals[i]=d at *;obtain⟨bJ,n,l,o⟩:=d;have q:(0:Int)<=(i:Int):=AP;have r:(i:Int)<(vals.length:Int):=AP;clear j b k;go_enter TX,ntmps179
 go_wp2
 go_region
 go_wp2
 exact vai (v:=du ⟨bJ,n,l,o⟩) (by simp[results,results179,go_sem]) rfl ⟨rfl,(((vaa _ w).alloc Kj _).alloc AQ _).drew⟩
end bU
namespace dI
open RowKit au bM bU
def XZ:vef.funcs[(190:Nat)]?=some f190:=veb func190
@[simp] theorem aGq:dk false 190:=cq XZ AM
theorem TY:vef.funcs[(184:Nat)]?=some f184:=veb func184
@[simp] theorem aGr:dk false 184:=cq TY AM
theorem TZ:vef.funcs[(188:Nat)]?=some f188:=veb func188
@[simp] theorem aGs:dk false 188:=cq TZ AM
abbrev jO(n:Int):Prop:= -9223372036854775808<=n/\n<=9223372036854775807
abbrev za(pv:Value):Ending:=.panicked [{v:=.iface 76 pv,recovered:=false}]
def XX(a b:Int)(d:jO a)(c:jO b)(w:aH):
 Calls vef 190 #[.I a,.I b] w λe w'=>(∃n,e=.returned (.tuple #[.I n,.bool (decide (jO (a+b)))])/\(jO (a+b)->n=a+b))/\w'=w:=by
 obtain⟨f,j⟩:=d;obtain⟨g,i⟩:=c;go_enter XZ,ntmps190
 go_wp2
 have k:(decide (wrap64 (a+b)<a)==decide (b<0))=decide (jO (a+b)):=by rw[Bool.eq_iff_iff];simp only[beq_iff_eq,decide_eq_decide,decide_eq_true_eq];unfold wrap64;omega
 refine vai (v:=.tuple #[.I (wrap64 (a+b)),.bool (decide (jO (a+b)))]) (by simp[results,results190,go_sem,k]) rfl ⟨⟨_,rfl,λh=>?_⟩,rfl⟩;unfold wrap64;omega
def apK(m:Value)(n s:Int)(w:aH):
 Calls vef 184 #[m,.I n,.T,.I s] w λe w'=>e=.returned (du ⟨false,n,s,iS⟩)/\w'=w.alloc (.cells #[.F,.I n,.I s,.E] 96):=by
 go_enter TY,ntmps184
 go_wp2
 exact vai (v:=du ⟨false,n,s,iS⟩) (by simp[results,results184,go_sem,iS]) rfl ⟨rfl,rfl⟩
variable{m:Nat}{cI pv sv:Value}{w:aH}
def apL(b:∃a n c,pv=.slice a n c)(h:ag w m #[pv,cI,sv] 271)(n s:Int):
 Calls vef 184 #[.P m 0,.I n,.F,.I s] w λe w'=>e=za pv/\cy w w':=by
 obtain⟨f,c8,pc,rfl⟩:=b;obtain⟨cu,dr,d⟩:=h.all;go_enter TY,ntmps184
 go_wp2
 exact⟨rfl,rfl,(vaa _ w).alloc Kj _⟩
def T0(l r:bw):bw:=⟨false,l.num+r.num,l.eK,iS⟩
def J3(pv:Value)(l r:bw):Ending:=if jO (l.num+r.num)then .returned (du (T0 l r))else za pv
def apM(o:∃a n c,pv=.slice a n c)(h:ag w m #[pv,cI,sv] 271)(l r:bw)(k:jO l.num)(j:jO r.num):
 Calls vef 188 #[.P m 0,.I 5,du l,du r] w λe w'=>e=J3 pv l r/\cy w w':=by
 have q:Hid (ag w m #[pv,cI,sv] 271):=h;have d:∀(i g f:Obj),cy w (((w.alloc i).alloc g).alloc f):=λi g f=>(((vaa _ w).alloc Kj _).alloc AQ _).alloc An _;clear h;unfold J3;split
 .rename_i b;go_enter TZ,ntmps188
  go_wp2_with (first|(go_at_call 190;refine(XX _ _ k j _).mono ?_;rintro e w' ⟨⟨n,rfl,hn⟩,rfl⟩;simp only[b,decide_true];obtain rfl:=hn b)|(go_at_call 184;refine(apK _ _ _ _).mono ?_;rintro e w' ⟨rfl,rfl⟩))
  exact vai (v:=du ⟨false,l.num+r.num,l.eK,iS⟩) (by simp[results,results188,go_sem,iS]) rfl ⟨rfl,(d _ _ _).alloc An _⟩
 .rename_i b;go_enter TZ,ntmps188
  go_wp2_with (go_at_call 190;refine(XX _ _ k j _).mono ?_;rintro e w' ⟨⟨n,rfl,hn⟩,rfl⟩;simp only[b,decide_false])
  refine(apL o (q.out.call (d _ _ _)) _ _).mono ?_;rintro e w1 ⟨rfl,p⟩;go_wp2
  exact⟨rfl,rfl,Below.step p (d _ _ _) An⟩
def sj:vef.funcs[(181:Nat)]?=some f181:=veb func181
@[simp] theorem apE:dk false 181:=cq sj AM
def my(op:Int)(l r:bw):bw:=if l.dL||r.dL then g4 else if op=5 then T0 l r else if op=10 then j8 (decide (uA l r<0))else j8 (decide (uA l r<=0))
def zb(op:Int)(l r:bw):Prop:=op=5/\l.dL=false/\r.dL=false/\¬jO (l.num+r.num)
instance (op:Int) (l r:bw):Decidable (zb op l r):=inferInstanceAs (Decidable (_/\_))
def uB(pv:Value)(op:Int)(l r:bw):Ending:=if zb op l r then za pv else .returned (du (my op l r))
def apN(C:∃a n c,pv=.slice a n c)(h:ag w m #[pv,cI,sv] 271)(op:Int)(l r:bw)(D:op=5\/op=10\/op=11)(E:op=5->jO l.num)(B:op=5->jO r.num)(hn:(l.dL||r.dL)=true):
 Calls vef 181 #[.P m 0,.I op,du l,du r] w λe w'=>e=uB pv op l r/\cy w w':=by
 have A:Hid (ag w m #[pv,cI,sv] 271):=h;have j:∀(f d t:Obj),cy w (((w.alloc f).alloc d).alloc t):=λf d t=>(((vaa _ w).alloc Kj _).alloc AQ _).alloc An _;have k:∀(f d:Obj),ag (((w.alloc f).alloc d).alloc (.cells #[.F,.I 0,.I 0,.E] 96)) (w.heap.size+1+1) #[.F,.I 0,.I 0,.E] 96:=λf d=>by simpa using ag.new ((w.alloc f).alloc d) #[.F,.I 0,.I 0,.E] 96
 have f:op≠12:=AP;have d:op≠13:=AP;clear h;have u:uB pv op l r=.returned (du g4):=by unfold uB;rw[vbt (by rintro⟨-,a,b,-⟩;simp[a,b]at hn),my,vbz hn]
 rw[u];clear u;obtain⟨x,F,ls,lt⟩:=l;obtain⟨y,H,rs,rt⟩:=r;simp only at hn;cases x with
 |true=>
  go_enter sj,ntmps181
  go_wp2
  refine(GF _).mono ?_;rintro e w1 ⟨rfl,g⟩;have i:Hid (ag w1 (w.heap.size+1+1) #[.F,.I 0,.I 0,.E] 96):=(k _ _).call g;have s:Hid (cy w w1):=Below.step g (j _ _ _) An;obtain⟨db,f3,z⟩:=i.out.all;clear g j k;go_wp2
  obtain⟨p,q⟩:=rl i.out AP s.out (g4);have o:=p.rules.1;exact vai (v:=du (g4)) (by simp[results,results181,go_sem,o]) rfl ⟨rfl,q⟩
 |false=>
  cases y with
  |false=>simp at hn
  |true=>
   go_enter sj,ntmps181
   go_wp2
   refine(GF _).mono ?_;rintro e w1 ⟨rfl,g⟩;have i:Hid (ag w1 (w.heap.size+1+1) #[.F,.I 0,.I 0,.E] 96):=(k _ _).call g;have s:Hid (cy w w1):=Below.step g (j _ _ _) An;obtain⟨db,f3,z⟩:=i.out.all;clear g j k;go_wp2
   obtain⟨p,q⟩:=rl i.out AP s.out (g4);have o:=p.rules.1;exact vai (v:=du (g4)) (by simp[results,results181,go_sem,o]) rfl ⟨rfl,q⟩
def apO(B:∃a n c,pv=.slice a n c)(h:ag w m #[pv,cI,sv] 271)(op:Int)(l r:bw)(J:op=5\/op=10\/op=11)(q:op=5->jO l.num)(p:op=5->jO r.num)(hn:¬(l.dL||r.dL)=true)(F:op=5):
 Calls vef 181 #[.P m 0,.I op,du l,du r] w λe w'=>e=uB pv op l r/\cy w w':=by
 have t:Hid (ag w m #[pv,cI,sv] 271):=h;have o:∀(g f s:Obj),cy w (((w.alloc g).alloc f).alloc s):=λg f s=>(((vaa _ w).alloc Kj _).alloc AQ _).alloc An _;have x:∀(g f:Obj),ag (((w.alloc g).alloc f).alloc (.cells #[.F,.I 0,.I 0,.E] 96)) (w.heap.size+1+1) #[.F,.I 0,.I 0,.E] 96:=λg f=>by simpa using ag.new ((w.alloc g).alloc f) #[.F,.I 0,.I 0,.E] 96
 have g:op≠12:=AP;have f:op≠13:=AP;clear h;obtain⟨H,i,ls,lt⟩:=l;obtain⟨I,j,rs,rt⟩:=r;simp only[Bool.or_eq_true,not_or,Bool.not_eq_true]at hn;obtain⟨rfl,rfl⟩:=hn;subst F;have u:uB pv 5 ⟨false,i,ls,lt⟩ ⟨false,j,rs,rt⟩=J3 pv ⟨false,i,ls,lt⟩ ⟨false,j,rs,rt⟩:=by
  unfold uB J3;by_cases b:jO (i+j)
  .rw[vbt (λh=>h.2.2.2 b),vbz b];simp[my]
  .rw[vbz ⟨rfl,rfl,rfl,b⟩,vbt b]
 rw[u];clear u;have d:=λW(C:ag W m #[pv,cI,sv] 271)=>apM B C ⟨false,i,ls,lt⟩ ⟨false,j,rs,rt⟩ (q rfl) (p rfl);unfold J3 at d⊢;by_cases b:jO (i+j)
 .simp only[vbz b]at d⊢;generalize T0 ⟨false,i,ls,lt⟩ ⟨false,j,rs,rt⟩=D at d⊢;go_enter sj,ntmps181
  go_wp2
  refine(d _ (t.out.call (o _ _ _))).mono ?_;rintro e w1 ⟨rfl,k⟩;have y:Hid (ag w1 (w.heap.size+1+1) #[.F,.I 0,.I 0,.E] 96):=(x _ _).call k;have E:Hid (cy w w1):=Below.step k (o _ _ _) An;obtain⟨db,f3,K⟩:=y.out.all;clear k o x d q p b;go_wp2
  obtain⟨A,b⟩:=rl y.out AP E.out (D);have z:=A.rules.1;exact vai (v:=du (D)) (by simp[results,results181,go_sem,z]) rfl ⟨rfl,b⟩
 .simp only[vbt b]at d⊢;go_enter sj,ntmps181
  go_wp2
  refine(d _ (t.out.call (o _ _ _))).mono ?_;rintro e w1 ⟨rfl,k⟩;clear d q p b;go_wp2
  exact⟨rfl,rfl,Below.step k (o _ _ _) An⟩
def apP(M:∃a n c,pv=.slice a n c)(h:ag w m #[pv,cI,sv] 271)(op:Int)(l r:bw)(B:op=5\/op=10\/op=11)(N:op=5->jO l.num)(L:op=5->jO r.num)(hn:¬(l.dL||r.dL)=true)(F:¬op=5):
 Calls vef 181 #[.P m 0,.I op,du l,du r] w λe w'=>e=uB pv op l r/\cy w w':=by
 have I:Hid (ag w m #[pv,cI,sv] 271):=h;have q:∀(d b A:Obj),cy w (((w.alloc d).alloc b).alloc A):=λd b A=>(((vaa _ w).alloc Kj _).alloc AQ _).alloc An _;have s:∀(d b:Obj),ag (((w.alloc d).alloc b).alloc (.cells #[.F,.I 0,.I 0,.E] 96)) (w.heap.size+1+1) #[.F,.I 0,.I 0,.E] 96:=λd b=>by simpa using ag.new ((w.alloc d).alloc b) #[.F,.I 0,.I 0,.E] 96
 have d:op≠12:=AP;have b:op≠13:=AP;clear h;obtain⟨J,j,ls,lt⟩:=l;obtain⟨K,k,rs,rt⟩:=r;simp only[Bool.or_eq_true,not_or,Bool.not_eq_true]at hn;obtain⟨rfl,rfl⟩:=hn;have B:op=10\/op=11:=AP;have C:uB pv op ⟨false,j,ls,lt⟩ ⟨false,k,rs,rt⟩=.returned (du (if op=10 then j8 (decide (uA ⟨false,j,ls,lt⟩ ⟨false,k,rs,rt⟩<0))else j8 (decide (uA ⟨false,j,ls,lt⟩ ⟨false,k,rs,rt⟩<=0)))):=by unfold uB;rw[vbt (λh=>F h.1)];simp[my,F]
 rw[C];clear C;generalize E:uA ⟨false,j,ls,lt⟩ ⟨false,k,rs,rt⟩=D;have p:=λW=>E▸Yt ⟨false,j,ls,lt⟩ ⟨false,k,rs,rt⟩ W;clear E;rcases B with rfl|rfl
 .simp only[vbr];go_enter sj,ntmps181
  go_wp2
  refine(p _).mono ?_;rintro e w2 ⟨rfl,g⟩;have z:Hid (ag w2 (w.heap.size+1+1) #[.F,.I 0,.I 0,.E] 96):=(s _ _).call g;have i:Hid (cy w w2):=Below.step g (q _ _ _) An;clear g p s q;go_wp2
  refine(Dg (decide (D<0)) _).mono ?_;rintro e w1 ⟨rfl,f⟩;have o:Hid (ag w1 (w.heap.size+1+1) #[.F,.I 0,.I 0,.E] 96):=z.out.call f;have y:Hid (cy w w1):=Below.step f i.out i.out.size;obtain⟨db,f3,H⟩:=o.out.all;clear f;go_wp2
  obtain⟨u,x⟩:=rl o.out AP y.out (j8 (decide (D<0)));have t:=u.rules.1;exact vai (v:=du (j8 (decide (D<0)))) (by simp[results,results181,go_sem,t]) rfl ⟨rfl,x⟩
 .simp only[Int.reduceEq,vbv];go_enter sj,ntmps181
  go_wp2
  refine(p _).mono ?_;rintro e w2 ⟨rfl,g⟩;have z:Hid (ag w2 (w.heap.size+1+1) #[.F,.I 0,.I 0,.E] 96):=(s _ _).call g;have i:Hid (cy w w2):=Below.step g (q _ _ _) An;clear g p s q;go_wp2
  refine(Dg (decide (D<=0)) _).mono ?_;rintro e w1 ⟨rfl,f⟩;have o:Hid (ag w1 (w.heap.size+1+1) #[.F,.I 0,.I 0,.E] 96):=z.out.call f;have y:Hid (cy w w1):=Below.step f i.out i.out.size;obtain⟨db,f3,H⟩:=o.out.all;clear f;go_wp2
  obtain⟨u,x⟩:=rl o.out AP y.out (j8 (decide (D<=0)));have t:=u.rules.1;exact vai (v:=du (j8 (decide (D<=0)))) (by simp[results,results181,go_sem,t]) rfl ⟨rfl,x⟩
def Yk(d:∃a n c,pv=.slice a n c)(h:ag w m #[pv,cI,sv] 271)(op:Int)(l r:bw)(f:op=5\/op=10\/op=11)(g:op=5->jO l.num)(b:op=5->jO r.num):
 Calls vef 181 #[.P m 0,.I op,du l,du r] w λe w'=>e=uB pv op l r/\cy w w':=by
 by_cases hn:(l.dL||r.dL)=true
 .exact apN d h op l r f g b hn
 by_cases i:op=5
 .exact apO d h op l r f g b hn i
 exact apP d h op l r f g b hn i
end dI
namespace dI
open RowKit au bU
def T1:vef.funcs[(176:Nat)]?=some f176:=veb func176
@[simp] theorem aGx:dk false 176:=cq T1 AM
def NY(vals:List bw)(t:bH)(d:bw):Prop:=(t.op=1/\∃i,∃h:i<vals.length,t.a=(i:Nat)/\d=vals[i])\/(t.op=2/\d=⟨false,t.v,0,iS⟩)
variable{B m:Nat}{cI pv:Value}{ds vals:List bw}{w:aH}
def apQ(h:lj B m pv cI ds w)(hv:j5 w cI vals)(t:bH)(d:bw)(hd:NY vals t d):
 Calls vef 179 #[.P m 0,vh t] w λe w'=>e=.returned (du d)/\cy w w':=by
 rcases hd with⟨g,i,hi,f,rfl⟩|⟨b,rfl⟩
 .grind[apJ]
 .obtain⟨op,a,c,ts⟩:=t;simp only at b;subst b;clear h hv;go_enter TX,ntmps179
  go_wp2
  exact vai (v:=du ⟨false,c,0,iS⟩) (by simp[results,results179,go_sem,iS]) rfl ⟨rfl,((vaa _ w).alloc Kj _).alloc AQ _⟩
def apR(h:lj B m pv cI ds w)(n:B<=w.heap.size)(hn:ds.length<=1000)(hv:j5 w cI vals)(t:bH)(d:bw)(hd:NY vals t d):
 Calls vef 176 #[.P m 0,vh t] w λe w'=>e=.returned (.tuple #[])/\lj B m pv cI (ds++[d]) w'/\Below B w w':=by
 have i:t.op=1\/t.op=2:=by rcases hd with h|h<;>simp[h.1]
 have r:Hid (NY vals t d):=hd;obtain⟨op,a,q,ts⟩:=t;simp only at i;have f:Hid (lj B m pv cI ds w):=h;have l:Hid (j5 w cI vals):=hv;clear h hv hd;rcases i with rfl|rfl;all_goals
  go_enter T1,ntmps176
  go_wp2
  have c:=λo=>((vaa _ w).alloc Kj o:cy w (w.alloc o));refine(apQ (f.out.call (c _)) (l.out.mono vN (br.ck (c _))) ⟨_,a,q,ts⟩ d r.out).mono ?_;rintro e w1 ⟨rfl,k⟩;have b:=Below.step k (c _) AQ;have u:Hid (lj B m pv cI ds w1):=f.out.call b;have j:Hid (cy w w1):=b;clear k b c;go_wp2
  refine(X5 u.out JX AP _).mono ?_;rintro e w2 ⟨rfl,g,b⟩;have s:Hid _:=g;have p:Hid (Below B w w2):=(j.out.mono n).trans b;clear g b;go_wp2
  go_end0
  exact⟨rfl,s.out,p.out⟩
def XL{l r:bw}(h:lj B m pv cI (ds++[l]++[r]) w)(hB:B<=w.heap.size)(hn:ds.length<=1000)(t:bH)(R:t.op=5\/t.op=10\/t.op=11)(Q:∃a n c,pv=.slice a n c)(C:t.op=5->jO l.num)(A:t.op=5->jO r.num):
 Calls vef 176 #[.P m 0,vh t] w λe w'=>(¬zb t.op l r/\e=.returned (.tuple #[])/\lj B m pv cI (ds++[my t.op l r]) w'\/zb t.op l r/\e=za pv)/\Below B w w':=by
 obtain⟨op,a,u,ts⟩:=t;simp only at R C A⊢;have N:Hid (lj B m pv cI (ds++[l]++[r]) w):=h;have Z:Hid (op=5->jO l.num):=C;have kZ:Hid (op=5->jO r.num):=A;have rU:Hid (∃a n c,pv=.slice a n c):=Q;clear C A Q;have o1:op≠1:=AP;have o2:op≠2:=AP;have o3:op≠3:=AP;have o4:op≠4:=AP;have abz:op≠8:=AP;have aGy:op≠14:=AP;have aGz:op≠15:=AP;clear h;go_enter T1,ntmps176
 go_wp2
 have b:cy w (w.alloc (.cells #[.I op,.I a,.I u,.string ts] 36)):=(vaa _ _).alloc Kj _;have aGA:m<w.heap.size:=by obtain⟨sv,hb,-⟩:=N.out.own;exact hb.lt
 have S:ag (w.alloc (.cells #[.I op,.I a,.I u,.string ts] 36)) w.heap.size #[.I op,.I a,.I u,.string ts] 36:=ag.new _ _ _;refine(TV (N.out.call b) (by have:=b.size;omega) AJ).mono ?_;rintro e w1 ⟨rfl,O,U,o⟩;have x:=o _ _ _ AP S;have J5:Hid (lj B m pv cI (ds++[l]) w1):=O;have J6:Hid (ag w1 w.heap.size #[.I op,.I a,.I u,.string ts] 36):=x;have dl:Hid (Below B w w1):=(b.mono hB).trans U;obtain⟨cu,dr,D⟩:=x.all;clear O U o x S b;obtain⟨q,s,v,lt⟩:=l;obtain⟨d,f,i,rt⟩:=r;go_wp2
 have b:cy w1 (w1.alloc (.cells #[.bool d,.I f,.I i,.string rt] 96)):=(vaa _ _).alloc Kj _;have T:ag (w1.alloc (.cells #[.bool d,.I f,.I i,.string rt] 96)) w1.heap.size #[.bool d,.I f,.I i,.string rt] 96:=ag.new _ _ _;refine(TV (J5.out.call b) (by have:=b.size;grind) AP).mono ?_;rintro e w2 ⟨rfl,P,V,H⟩;have I:=H _ _ _ AP (J6.out.alloc _);have y:=H _ _ _ AJ T;have W:Hid (lj B m pv cI ds w2):=P;have j:Hid (Below B w w2):=dl.out.trans ((b.mono AJ).trans V);have abB:Hid _:=I;have zc:Hid _:=y;clear cu dr D;obtain⟨cu,dr,D⟩:=I.all;obtain⟨kl,oY,oF⟩:=y.all;clear P V H I y T b;go_wp2
 have b:cy w2 (w2.alloc (.cells #[.bool q,.I s,.I v,.string lt] 96)):=(vaa _ _).alloc Kj _;obtain⟨sv,J,-⟩:=W.out.own;refine(Yk rU.out (J.call b) op ⟨q,s,v,lt⟩ ⟨d,f,i,rt⟩ R Z.out kZ.out).mono ?_;rintro e K ⟨rfl,L⟩;have p:Hid (cy w2 K):=Below.step L b AQ;have F:Hid (lj B m pv cI ds K):=W.out.call p.out;clear L b cu dr D kl oY oF J;by_cases g:zb op ⟨q,s,v,lt⟩ ⟨d,f,i,rt⟩
 .rw[uB,vbz g];have z:Hid _:=g;clear g;go_wp2
  exact⟨rfl,.inr ⟨z.out,rfl⟩,j.out.trans (p.out.mono JX)⟩
 rw[uB,vbt g];have z:Hid _:=g;clear g;go_wp2
 refine(X5 F.out (by have:=p.out.size;have:=j.out.size;omega) AP (my op ⟨q,s,v,lt⟩ ⟨d,f,i,rt⟩)).mono ?_;rintro e Y ⟨rfl,k,M⟩;have E:Hid _:=k;have X:Hid (Below B w Y):=j.out.trans ((p.out.mono JX).trans M);clear k M;go_wp2
 go_end0
 exact⟨.inl ⟨z.out,rfl,E.out⟩,X.out⟩
def N2(vals:List bw)(t:bH)(ds lT:List bw):Prop:=
 (∃d,NY vals t d/\lT=ds++[d])\/
 ((t.op=5\/t.op=10\/t.op=11)/\∃Dh l r,ds=Dh++[l]++[r]/\(t.op=5->jO l.num/\jO r.num)/\¬zb t.op l r/\lT=Dh++[my t.op l r])
def abD(t:bH)(ds:List bw):Prop:=t.op=5/\∃Dh l r,ds=Dh++[l]++[r]/\jO l.num/\jO r.num/\zb t.op l r
def lI(vals:List bw):List bH->List bw->Option (List bw)->Prop
 | [],ds,out=>out=some ds
 |t::ts,ds,out=>(∃lT,N2 vals t ds lT/\lI vals ts lT out)\/(abD t ds/\out=none)
variable{lT:List bw}
def N2.len{t:bH}(h:N2 vals t ds lT):lT.length<=ds.length+1:=by rcases h with⟨d,-,rfl⟩|⟨-,a,l,r,rfl,-,-,rfl⟩<;>simp
def apU(h:lj B m pv cI ds w)(f:B<=w.heap.size)(hn:ds.length<=1000)(hv:j5 w cI vals)(g:∃a n c,pv=.slice a n c)(t:bH)(hs:N2 vals t ds lT):
 Calls vef 176 #[.P m 0,vh t] w λe w'=>e=.returned (.tuple #[])/\lj B m pv cI lT w'/\Below B w w':=by
 rcases hs with⟨d,hd,rfl⟩|⟨i,p,l,r,rfl,b,k,rfl⟩
 .exact apR h f hn hv t d hd
 refine(XL h f (by simp at hn;omega) t i g (λh=>(b h).1) (λh=>(b h).2)).mono ?_;rintro e w' ⟨⟨-,rfl,j⟩|⟨h,-⟩,o⟩
 .exact⟨rfl,j,o⟩
 .exact absurd h k
def T3(h:lj B m pv cI ds w)(k:B<=w.heap.size)(hn:ds.length<=1000)(d:∃a n c,pv=.slice a n c)(t:bH)(hs:abD t ds):
 Calls vef 176 #[.P m 0,vh t] w λe w'=>e=za pv/\Below B w w':=by
 obtain⟨f,o,l,r,rfl,g,b,i⟩:=hs;refine(XL h k (by simp at hn;omega) t (.inl f) d (λ_=>g) (λ_=>b)).mono ?_;rintro e w' ⟨⟨h,-⟩|⟨-,rfl⟩,j⟩
 .exact absurd i h
 .exact⟨rfl,j⟩
def abE:vef.funcs[(174:Nat)]?=some f174:=veb func174
@[simp] theorem aGC:dk false 174:=cq abE AM
def T4(pv:Value):Option bw->Ending
 |some d=>.returned (du d)
 |none=>za pv
def T5(ts:List bH)(T:Value)(pv cI:Value)(vals:List bw)(o:Option bw)(w:aH)(ht:rS w T ts)(L:∃a n c,pv=.slice a n c)(hv:j5 w cI vals)(r9:ts.length<=900)(K:lI vals ts [] (o.map λd=>[d])):
 Calls vef 174 #[T,.agg #[pv,cI]] w λe w'=>e=T4 pv o/\cy w w':=by
 have F:Hid (∃a n c,pv=.slice a n c):=L;obtain⟨g,c8,pc,rfl⟩:=L;obtain⟨bm,cap,rfl,hl,B⟩:=id ht;obtain⟨h,f,X,-⟩:=hv.shape;subst X;have Z:Hid _:=hv;have kZ:Hid (lI vals ts [] (o.map λd=>[d])):=K;clear hv K;go_enter abE,ntmps174
 go_wp2
 have U:ag (((w.alloc (.cells #[.slice g c8 pc,.slice h vals.length f] 79)).alloc (.cells #[.F,.I 0,.I 0,.E] 96)).alloc (.cells #[.slice g c8 pc,.slice h vals.length f,.N] 271)) (w.heap.size+1+1) #[.slice g c8 pc,.slice h vals.length f,.N] 271:=by have:=ag.new ((w.alloc (.cells #[.slice g c8 pc,.slice h vals.length f] 79)).alloc (.cells #[.F,.I 0,.I 0,.E] 96)) #[.slice g c8 pc,.slice h vals.length f,.N] 271;simp_all
 have N3:Hid (lj (w.heap.size+1+1) (w.heap.size+1+1) (.slice g c8 pc) (.slice h vals.length f) [] _):=⟨vad _,_,U,vcc _ _ _ _⟩;have E:ag (((w.alloc (.cells #[.slice g c8 pc,.slice h vals.length f] 79)).alloc (.cells #[.F,.I 0,.I 0,.E] 96)).alloc (.cells #[.slice g c8 pc,.slice h vals.length f,.N] 271)) (w.heap.size+1) #[.F,.I 0,.I 0,.E] 96:=by have:=(ag.new (w.alloc (.cells #[.slice g c8 pc,.slice h vals.length f] 79)) #[.F,.I 0,.I 0,.E] 96).alloc (.cells #[.slice g c8 pc,.slice h vals.length f,.N] 271);simp_all
 have J4:Hid _:=E;have Y:Hid (cy w (((w.alloc (.cells #[.slice g c8 pc,.slice h vals.length f] 79)).alloc (.cells #[.F,.I 0,.I 0,.E] 96)).alloc (.cells #[.slice g c8 pc,.slice h vals.length f,.N] 271))):=(((vaa _ w).alloc Kj _).alloc AQ _).alloc An _;have D:Hid (w.heap.size+1+1<=(((w.alloc (.cells #[.slice g c8 pc,.slice h vals.length f] 79)).alloc (.cells #[.F,.I 0,.I 0,.E] 96)).alloc (.cells #[.slice g c8 pc,.slice h vals.length f,.N] 271)).heap.size):=by unfold Hid;simp
 clear U E;generalize((w.alloc (.cells #[.slice g c8 pc,.slice h vals.length f] 79)).alloc (.cells #[.F,.I 0,.I 0,.E] 96)).alloc (.cells #[.slice g c8 pc,.slice h vals.length f,.N] 271)=w0 at *;go_loopw [13] (λi W=>∃(k:Nat)(ds:List bw),k<=ts.length/\i=.I (k:Int)/\ds.length<=k/\lI vals (ts.drop k) ds (o.map λd=>[d])/\lj (w.heap.size+1+1) (w.heap.size+1+1) (.slice g c8 pc) (.slice h vals.length f) ds W/\Below (w.heap.size+1+1) w0 W/\ag W (w.heap.size+1) #[.F,.I 0,.I 0,.E] 96)
  (λi _=>ts.length-(intOf i).toNat)
 case atStart=>exact⟨0,[],vba _,rfl,vad _,kZ.out,N3.out,vaa _ _,J4.out⟩
 case round=>
  obtain⟨k,ds,hk,rfl,yx,hrun,y,s,J⟩:=hrel;have x:Hid _:=y;have bP:Hid (Below (w.heap.size+1+1) w0 wr):=s;have S:Hid (ag wr (w.heap.size+1) #[.F,.I 0,.I 0,.E] 96):=J;have m:Hid (cy w wr):=Y.out.trans (s.mono AP);have xH:Hid (w.heap.size+1+1<=wr.heap.size):=vac D.out s.size;have g8:w.heap.size+1+1<wr.heap.size:=by obtain⟨sv,hq,-⟩:=y.own;exact hq.lt
  clear y s J;by_cases p:k<ts.length
  .obtain⟨b,off,rfl,cz,c1,co,db,-⟩:=B k p;simp at cz;have r:=br.ck m.out;have A:=r _ _ _ cz;have Q:=r _ _ _ c1;have P:=r _ _ _ co;have O:=r _ _ _ db;have Sa:=fB A;rw[List.drop_eq_getElem_cons p]at hrun;have nS:(0:Int)<=(k:Int):=AP;have k0:(k:Int)<(ts.length:Int):=AP;clear cz c1 co db r B;rcases hrun with⟨lT,hst,V⟩|⟨hst,M⟩;case' inr=>
    obtain rfl:o=none:=by cases o with
     |none=>rfl
     |some d=>simp at M
    have t:Hid _:=hst;clear hst M;go_wp2
    have j:cy wr (wr.alloc (.cells #[.I ts[k].op,.I ts[k].a,.I ts[k].v,.string ts[k].s] 36)):=(vaa _ _).alloc Kj _;refine(T3 (x.out.call j) (by have:=j.size;omega) AP F.out ts[k] t.out).mono ?_;rintro e w1 ⟨rfl,l⟩;have q:Hid (cy w w1):=m.out.trans (((j.mono AP).trans l).mono AP);clear l j A Q P O;go_wp2
    exact⟨rfl,rfl,q.out⟩
   have t:Hid _:=hst;have C:Hid _:=V;have hlen:=hst.len;clear hst V;go_wp2
   have j:cy wr (wr.alloc (.cells #[.I ts[k].op,.I ts[k].a,.I ts[k].v,.string ts[k].s] 36)):=(vaa _ _).alloc Kj _;refine(apU (x.out.call j) (by have:=j.size;omega) AP (aZ.mono vN (br.ck (Below.step j m.out m.out.size)) Z.out) F.out ts[k] t.out).mono ?_;rintro e w1 ⟨rfl,I,l⟩;have J5:Hid _:=I;have q:Hid (Below (w.heap.size+1+1) w0 w1):=bP.out.trans ((j.mono AP).trans l);have u:Hid (ag w1 (w.heap.size+1) #[.F,.I 0,.I 0,.E] 96):=(S.out.alloc _).below l AP;clear I l j A Q P O;go_wp2
   go_roundw
   case rel=>exact⟨k+1,lT,AP,AQ,AP,C.out,J5.out,q.out,u.out⟩
   case measure=>simp[intOf];omega
  .have nV:k=ts.length:=by omega
   subst nV;rw[List.drop_length]at hrun;obtain⟨d,rfl,rfl⟩:∃d,o=some d/\ds=[d]:=by cases o with|none=>exact absurd hrun (by simp[lI])|some d=>exact⟨d,rfl,(van hrun).symm⟩
   have e7:¬((ts.length:Int)<(ts.length:Int)):=AP;clear B;go_wp2
   refine(TV (ds:=[]) (d:=d) x.out AP AQ).mono ?_;rintro e w1 ⟨rfl,-,l,-⟩;have z:=S.out.below l AP;have u:Hid (ag w1 (w.heap.size+1) #[.F,.I 0,.I 0,.E] 96):=z;have q:Hid (cy w w1):=m.out.trans (l.mono AP);obtain⟨cu,dr,gB⟩:=z.all;clear z l;obtain⟨bJ,N,H,R⟩:=d;go_wp2
   have jn:=(((u.out.set 0 (.bool bJ)).set 1 (.I N)).set 2 (.I H)).set 3 (.string R);have jo:=jn.rules.1;refine vai (v:=du ⟨bJ,N,H,R⟩) (by simp[results,results174,go_sem,jo]) rfl ⟨rfl,?_⟩;exact(((q.out.setCell AQ _).setCell AQ _).setCell AQ _).setCell AQ _
def Z6:vef.funcs[(195:Nat)]?=some f195:=veb func195
@[simp] theorem aGD:dk false 195:=cq Z6 AM
theorem apY(es:List (List bH))(ev aA pv cI:Value)(vals out:List bw)(w:aH)(hv:nP w ev es)(D:∃a n c,aA=.slice a n c)(hp:∃a n c,pv=.slice a n c)(C:j5 w cI vals)(hsm:es.length<=1000000)(P:∀e∈es,e.length<=900)(J8:out.length=es.length)(bad:ubc)(hrun:∀k(h:k<es.length)(E:k<out.length),(∀f,bad=some f->k<f)->lI vals es[k] [] (some [out[k]]))(im:∀f,bad=some f->∃h:f<es.length,lI vals es[f] [] none):
 Calls vef 195 #[.agg #[ev,aA],.agg #[pv,cI]] w λe w'=>bad≠none/\e=za pv/\cy w w'\/bad=none/\∃b cs,e=.returned (.S b 0 es.length es.length)/\ag w' b cs 96/\cs.size=es.length*4/\r7 cs out es.length/\w.heap.size<=b/\cy w w':=by
 obtain⟨Z,Y,cc,rfl⟩:=D;obtain⟨p,c8,pc,rfl⟩:=hp;obtain⟨r,o,T6,-⟩:=C.shape;subst T6;have qZ:Hid _:=C;have T7:Hid (∀k(h:k<es.length)(E:k<out.length),(∀f,bad=some f->k<f)->lI vals es[k] [] (some [out[k]])):=hrun;have z:Hid (∀f,bad=some f->∃h:f<es.length,lI vals es[f] [] none):=im;have y:Hid (∀e∈es,e.length<=900):=P;clear C hrun P im;obtain⟨bm,cap,rfl,hl,b5⟩:=hv;go_enter Z6,ntmps195
 go_wp2_with (at_make;refine ML Sw _ rfl _ _ rfl _ _ es.length rfl rfl AP AP ?_;intro w1 bq cG l B;have ee:=((ag.new w #[.slice bm es.length cap,.slice Z Y cc] 107).alloc (.cells #[.slice p c8 pc,.slice r vals.length o] 79)).call B;have L:=(ag.new (w.alloc (.cells #[.slice bm es.length cap,.slice Z Y cc] 107)) #[.slice p c8 pc,.slice r vals.length o] 79).call B;obtain⟨I6,nU,rY⟩:=ee.all)
 rw[World.size_alloc]at L;have X:cy w w1:=Below.step B (((vaa _ _).alloc AQ _).alloc AQ _) An;have kL:Hid (ag w1 (w.heap.size+1) #[.slice p c8 pc,.slice r vals.length o] 79):=L;have AN:ag w1 (w.heap.size+1+1) bq 96:=BR;have yB:Hid (ag w1 (w.heap.size+1+1) bq 96):=AN;have dl:Hid (cy w w1):=X;clear cG AN B X ee L;go_loopw [15] (λn W=>∃(k:Nat)(cs:fi),k<=es.length/\n=.I k/\ag W (w.heap.size+1+1) cs 96/\cs.size=es.length*4/\r7 cs out k/\cy w W/\ag W (w.heap.size+1) #[.slice p c8 pc,.slice r vals.length o] 79/\∀f,bad=some f->k<=f)
  (λi _=>es.length-(intOf i).toNat)
 case atStart=>exact⟨0,bq,vba _,rfl,yB.out,l,λj _ hj=>AJ,dl.out,kL.out,λf _=>vba _⟩
 case round=>
  obtain⟨k,cs,hk,rfl,T,N,O,U,F,x⟩:=hrel;have Cw:Hid (∀f,bad=some f->k<=f):=x;have cT:Hid (ag wr (w.heap.size+1+1) cs 96):=T;have M:Hid (r7 cs out k):=O;have q:Hid (cy w wr):=U;have kZ:Hid (ag wr (w.heap.size+1) #[.slice p c8 pc,.slice r vals.length o] 79):=F;have g:Hid _:=N;have MP:Hid _:=l;obtain⟨r1,R,Q⟩:=F.all;clear T O U N l F x;by_cases s:k<es.length
  .obtain⟨b,off,rfl,aV,J,fS⟩:=b5 k s;simp at J;have A:=br.ck q.out;have I:=A _ _ _ J;have ew:=fB I;obtain⟨Bf,kN,K,-⟩:=aZ.shape fS;subst K;have V:Hid (rS wr _ es[k]):=aZ.mono tT A fS;have v:Hid (j5 wr _ vals):=aZ.mono vN A qZ.out;clear A J fS b5;have nS:(0:Int)<=(k:Int):=AP;have k0:(k:Int)<(es.length:Int):=AP;have S:k<out.length:=AP;by_cases t:bad=some k
   .have k5:Hid (lI vals es[k] [] none):=(z.out k t).2;have kK:Hid (bad=some k):=t;clear t;go_wp2_with fail
    refine(T5 es[k] _ _ _ vals none _ V.out AJ v.out (y.out _ AJ) k5.out).mono ?_;rintro e w2 ⟨rfl,m⟩;have H:Hid (cy w w2):=q.out.trans (m.mono q.out.size);clear m I r1 R Q;simp only[T4];go_wp2_with fail
    exact⟨rfl,.inl ⟨by rw[kK.out];simp,rfl,H.out⟩⟩
   have u:Hid (∀f,bad=some f->k<f):=λf h=>by
    have:=Cw.out f h;rcases Nat.eq_or_lt_of_le this with rfl|E
    .exact absurd h t
    .exact E
   clear t;go_wp2_with fail
   refine(T5 es[k] _ _ _ vals (some out[k]) _ V.out AJ v.out (y.out _ AJ) (T7.out k s S u.out)).mono ?_;rintro e w2 ⟨rfl,m⟩;simp only[T4];have d:=cT.out.call m;have vn:Hid (ag w2 (w.heap.size+1+1) cs 96):=d;have zc:Hid (ag w2 (w.heap.size+1) #[.slice p c8 pc,.slice r vals.length o] 79):=kZ.out.call m;have H:Hid (cy w w2):=q.out.trans (m.mono q.out.size);have Sb:w2.cell? (.a (w.heap.size+1+1) (k*4))=some (cs[k*4]'EU):=by rw[d.rules.1];simp
   have Sc:w2.cell? (.a (w.heap.size+1+1) (k*4+1))=some (cs[k*4+1]'EU):=by rw[d.rules.1];simp
   have Z2:w2.cell? (.a (w.heap.size+1+1) (k*4+2))=some (cs[k*4+2]'EU):=by rw[d.rules.1];simp
   have Z3:w2.cell? (.a (w.heap.size+1+1) (k*4+3))=some (cs[k*4+3]'EU):=by rw[d.rules.1];simp
   have Sd:=d.rules.2;clear d m I r1 R Q;go_wp2_with fail
   go_roundw
   case rel=>
    refine⟨k+1,M6 cs k out[k],AP,by go_num,(((vn.out.set _ _).set _ _).set _ _).set _ _,by simp;exact g.out,M.out.step S (by rw[J8];exact g.out),(((H.out.setCell AJ _).setCell AJ _).setCell AJ _).setCell AJ _,?_⟩;exact⟨(((zc.out.ek AQ _).ek AQ _).ek AQ _).ek AQ _,u.out⟩
   case measure=>simp[intOf];omega
  .have nV:k=es.length:=by omega
   go_wp2_with fail
   go_ret
   refine .inr ⟨?_,_,_,rfl,cT.out,g.out,by rw[<-nV];exact M.out,AP,q.out⟩;cases hq:bad with|none=>rfl|some f=>have:=Cw.out f hq;obtain⟨h,-⟩:=z.out f hq;omega
def T9:vef.funcs[(194:Nat)]?=some f194:=veb func194
def T_(nQ:Nat)(place:ubd)(vals:List bw)(W:aH)(x:Value):Prop:=
 ∃di pc bv cs,x=.agg #[.slice di place.length pc,.S bv 0 vals.length vals.length]/\(∀i(h:i<place.length),∃b off c e z,di=some ⟨b,off,none⟩/\b<nQ/\W.heap[b]?=some (.cells c e z)/\c[off+i]?=some (.I place[i]))/\ag W bv cs 96/\cs.size=vals.length*4/\r7 cs vals vals.length
def ZT(nQ:Nat)(pl:Nat->List Int)(vs:Nat->List bw):Gb nQ (λt=>T_ nQ (pl t) (vs t)):=by
 refine⟨λt W x h=>?_,λt W W' x h hk=>?_⟩
 .obtain⟨d,pc,bv,cs,rfl,-⟩:=h;grind
 .obtain⟨d,pc,bv,cs,rfl,m,l,k⟩:=h;refine⟨d,pc,bv,cs,rfl,λi hi=>?_,hk _ _ _ _ l AJ,k⟩;obtain⟨b,off,c,e,z,j,a,g,f⟩:=m i hi;exact⟨b,off,c,e,z,j,a,hk _ _ _ _ g (.inl a),f⟩
theorem ap2{b o:Nat}{v:Value}(h:w.cell? (.a b o)=some v):∃c e z,w.heap[b]?=some (.cells c e z)/\c[o]?=some v:=by unfold World.cell? at h;grind
def ap3(E:Ending->Prop)(n:Nat)(P:cf)(g:Nat)(lb:fi)(Row:uat)(N nQ:Nat)(w0:aH):Prop:=
 ∀(l:Nat)(S:dY)(J:ubh)(W:aH),Below nQ w0 W->(∀t W,J t W->∀b,S b->b<W.heap.size)->(∀t W W',J t W->jh W W'->(∀b,S b->W'.heap[b]?=W.heap[b]?)->J t W')->
  (∀t x W1,J t W1->t<N->Row t W1 x->YieldAt Fence.wide (n-1) P l #[x] W1 λe W'=>e=.returned (.T)/\J (t+1) W'/\Below nQ W1 W')->
  J 0 W->CallsIn Fence.wide n P g (#[.func (.yield l) #[] #[]]++lb) W λe W'=>E e/\J N W'/\Below nQ W W'
def ZJ{n:Nat}(es:List (List bH))(rs:List bh)(ev aA:Value)(fr too N:Nat)(outs:Nat->List bw)(bad:ubb)(pv:Value)(w0:aH)(hv:nP w0 ev es)(hc:eS w0 aA rs)(o:es.length<=1000000)(U:∀e∈es,e.length<=900)(nU:fr<=too)(s3:too<=rs.length)(pp:rs.length<=1000000)(J8:∀i,(outs i).length=es.length)(hrun:∀i(h:i<rs.length) k(hk:k<es.length)(h':k<(outs i).length),(∀f,bad i=some f->k<f)->lI rs[i].2 es[k] [] (some [(outs i)[k]]))(im:∀i(h:i<rs.length) f,bad i=some f->∃h':f<es.length,lI rs[i].2 es[f] [] none)(a3:fr+N<=too)(H:∀i,i<N->bad (fr+i)=none)(xu:fr+N<too->bad (fr+N)≠none/\∃b off c,aA=.S b off rs.length c/\w0.cell? (.a b (off+(fr+N)*2))=some pv)(y7:∃a c,aA=.slice a rs.length c/\rs.length<=c)(j3:fr<too)(g_ gF ee:Nat)(M:w0.cell? (.a g_ 0)=some ev)(L:w0.cell? (.a g_ 1)=some aA)(hf:w0.cell? (.a gF 0)=some (.I fr))(ht:w0.cell? (.a ee 0)=some (.I too)):
 ap3 (λe=>if fr+N=too then∃v,e=.returned v else e=za pv) n vef 194 #[.P g_ 0,.P gF 0,.P ee 0] (λk=>T_ w0.heap.size ((rs[fr+k]?.map (·.1)).getD []) (outs (fr+k))) N w0.heap.size w0:=by
 intro l S J W hb rY vv ji h0;have B:=MZ rY vv;have Cn:Hid (∀i,i<N->bad (fr+i)=none):=H;have F:Hid (fr+N<too->bad (fr+N)≠none/\∃b off c,aA=.S b off rs.length c/\w0.cell? (.a b (off+(fr+N)*2))=some pv):=xu;clear H xu;clear vv rY;have s:=br.ck hb;have qY:=s _ _ _ hf;have sk:=s _ _ _ ht;have J9:=s _ _ _ M;have GH:=s _ _ _ L;obtain⟨bm,cap,rfl,-,-⟩:=id hv;obtain⟨fL,N4,rfl,y7⟩:=y7;obtain⟨ap4,ap5,r,-,Q⟩:=id hc;cases r;obtain⟨bT,jZ,rfl,-⟩:=Q 0 AP;refine callsIn_of_wp T9 rfl trivial ?_ rfl;simp[vbq];gi_wp2
 gi_loopw [13] (λp wr=>∃i:Nat,i<=N/\p=.I (i:Int)/\J i wr/\cy w0 wr/\Below w0.heap.size W wr) (λp _=>too-fr-(intOf p).toNat)
 case atStart=>grind[Below.refl]
 case round=>
  obtain⟨i,k0,rfl,hj,O,ew⟩:=hrel;have m:=br.ck O;have Di:=m _ _ _ M;have FH:=m _ _ _ L;have N5:=fB Di;have V:Hid (nP wr _ es):=aZ.mono qR m hv;have X:Hid (J i wr):=hj;have z:Hid (cy w0 wr):=O;have Z:Hid (Below w0.heap.size W wr):=ew;by_cases hlt:fr+i<too
  .have jN:fr+i<rs.length:=by omega
   obtain⟨b',F0,vT,pv,cI,P,d1,fR,Y⟩:=Q (fr+i) jN;cases vT;obtain⟨d,pc,rfl,-,N6⟩:=id fR;obtain⟨x,u,rfl,-,-⟩:=id Y;simp at P;have e0:=m _ _ _ P;have e1:=m _ _ _ d1;have bX:=fB e0;have R:Hid (j5 wr _ _):=aZ.mono vN m Y;have Ua:Hid _:=N6;have rX:(i:Int)<((too-fr:Nat):Int):=AP;have vq:(0:Int)<=(i:Int):=AP;have Ub:i=N->pv=.slice d rs[fr+i].1.length pc:=by rintro rfl;obtain⟨-,b,off,c,r,hcell⟩:=F.out hlt;cases r;simp only[P]at hcell;exact(van hcell).symm
   have cu:jZ+(fr+i)*2=jZ+fr*2+i*2:=AP;rw[cu]at e0 e1;clear hj O ew m hf ht M L qY sk J9 GH h0 hb s P d1 Q N6 cu;gi_wp2
   have lD:cy wr (wr.alloc (.cells #[.slice d rs[fr+i].1.length pc,.slice x rs[fr+i].2.length u] 79)):=(vaa _ wr).alloc Kj _;have gD:Hid (ag (wr.alloc (.cells #[.slice d rs[fr+i].1.length pc,.slice x rs[fr+i].2.length u] 79)) wr.heap.size #[.slice d rs[fr+i].1.length pc,.slice x rs[fr+i].2.length u] 79):=ag.new _ _ _;have I:=br.ck lD;have q0:=I _ _ _ Di;have bj:=I _ _ _ FH;have Uc:Hid (nP _ _ es):=aZ.mono qR I V.out;have Ud:Hid (j5 _ _ _):=aZ.mono vN I R.out;have T:Hid (cy wr _):=lD;have Ka:Hid (wr.heap.size+1=(wr.alloc (.cells #[.slice d rs[fr+i].1.length pc,.slice x rs[fr+i].2.length u] 79)).heap.size):=BR;clear lD I Di FH e0 e1 fR Y N5;generalize wr.alloc (.cells #[.slice d rs[fr+i].1.length pc,.slice x rs[fr+i].2.length u] 79)=j at *;obtain⟨t1,d_,t3⟩:=gD.out.all;have Ue:=hrun (fr+i) jN;have Uf:=J8 (fr+i);have E:=B;have t:=apY es _ (.S bT jZ rs.length N4) (.slice d rs[fr+i].1.length pc) _ rs[fr+i].2 (outs (fr+i)) j.drew (aZ.mono qR K3 Uc.out) AJ AJ (aZ.mono vN K3 Ud.out) o U Uf (bad (fr+i)) Ue (im (fr+i) jN);by_cases ap6:i=N
   .subst ap6;have HC:Hid _:=t.mono (R':=λe w'=>e=za (.slice d rs[fr+i].1.length pc)/\Below j.drew.heap.size j.drew w') (by
     rintro e w' (⟨-,h1,h2⟩|⟨h,-⟩)
     .exact⟨h1,h2⟩
     .exact absurd h (F.out AP).1)
    have ap7:Hid (pv=.slice d rs[fr+i].1.length pc):=Ub rfl;have ap8:=B;clear t Uc Ud Ua Ue ji B hrun E o U J8 Uf R V im Ub;refine vcr AS (bM.Bd (C:=λW=>W=j.drew) _ _ _ _ ?_);refine bM.lh (i:=0) (v:=.func (.yield l) #[] #[]) rfl AS AS AS K3 rfl ⟨A_,λW g=>Hj,(λ_ h=>nomatch h),λ_=>rfl⟩ ?_;refine bM.lh (i:=1) (v:=.P wr.heap.size 0) rfl AS AS AS K3 rfl ⟨A_,λW g=>Hj,(λ_ h=>nomatch h),λ_=>rfl⟩ ?_;refine bM.lh (i:=2) (v:=.slice d rs[fr+i].1.length pc) rfl AS AS AS K3 rfl ⟨A_,λW g=>Hj,(λ_ h=>nomatch h),λ_=>rfl⟩ ?_;refine bM.lh (i:=3) (v:=.agg #[.slice bm es.length cap,.S bT jZ rs.length N4]) rfl AS AS AS K3 rfl ⟨A_,λW g=>Hj,(λ_ h=>nomatch h),λ_=>rfl⟩ ?_;refine bM.lh (i:=4) (v:=.agg #[.slice d rs[fr+i].1.length pc,.slice x rs[fr+i].2.length u]) rfl AS AS AS K3 rfl ⟨A_,λW g=>Hj,(λ_ h=>nomatch h),λ_=>rfl⟩ ?_;refine bM.ir (i:=5) AS rfl λK hK=>?_;go_simp
    refine⟨PA,λh=>Bu,(callsIn_wide.2 HC.out).mono ?_⟩;rintro e w2 ⟨rfl,w⟩;have y:cy wr w2:=T.out.drew.trans (w.mono Ge);exact⟨rfl,by rw[vbt AP,ap7.out],ap8 i wr w2 X.out y,Z.out.trans (y.mono z.out.size)⟩
   have t:=t.mono (R':=λe w'=>∃b cs,e=.returned (.S b 0 es.length es.length)/\ag w' b cs 96/\cs.size=es.length*4/\r7 cs (outs (fr+i)) es.length/\j.drew.heap.size<=b/\Below j.drew.heap.size j.drew w') (by
    rintro e w' (⟨h,-⟩|⟨-,h⟩)
    .exact absurd (Cn.out i AP) h
    .exact h)
   clear Ub im;have HC:Hid _:=t;clear t;have Kb:∀b cs w2,ag w2 b cs 96->cs.size=es.length*4->r7 cs (outs (fr+i)) es.length->Below j.drew.heap.size j.drew w2->YieldAt Fence.wide (n-1) vef l #[.agg #[.slice d rs[fr+i].1.length pc,.S b 0 es.length es.length]] w2 λe W'=>e=.returned (.T)/\J (i+1) W'/\Below w0.heap.size w2 W':=by
    intro b cs w2 k1 k2 k3 k4;have y:cy wr w2:=T.out.drew.trans (k4.mono Ge);refine ji i _ w2 (B _ _ _ X.out y) AP ⟨d,pc,b,cs,?_,?_,k1,?_,?_⟩
    .grind
    .intro q hq;have hq':q<rs[fr+i].1.length:=AJ;obtain⟨b2,o2,rfl,hcell⟩:=Ua.out q hq';have D:w0.cell? (.a b2 (o2+q))=some (.I rs[fr+i].1[q]):=by simp_all[rQ]
     have jX:=fB D;have qQ:=(br.ck (z.out.trans (y.mono z.out.size))) _ _ _ D;grind[ap2]
    .grind
    grind
   have rU:Hid _:=Kb;clear Kb Uc Ud Ua Ue ji B hrun E o U J8 Uf R V;gi_region_with (first|(refine⟨PA,λh=>Bu,(callsIn_wide.2 HC.out).mono ?_⟩;rintro e w2 ⟨b,cs,rfl,cG,A,CI,nl,w⟩;obtain⟨u1,u2,u3⟩:=(gD.out.drew.call w).all;obtain⟨fn,tmps,assign,body,hy,bt⟩:=rU.out b cs w2 cG A CI w)|(refine⟨λh=>Bu,bt.mono ?_⟩;rintro e oD ⟨rfl,xq,kq⟩))
   all_goals
    have Kc:Hid (J (i+1) oD):=xq;have po:Hid (Below w0.heap.size wr oD):=((T.out.drew.trans (w.mono Ge)).mono z.out.size).trans kq;clear xq kq bt hy cG A CI nl w u1 u2 u3 t1 d_ t3 q0 bj;gi_wp2
    go_roundw
    case rel=>exact⟨i+1,AP,AQ,Kc.out,z.out.trans po.out,Z.out.trans po.out⟩
    case measure=>simp[intOf];omega
  .have rX:¬(i:Int)<((too-fr:Nat):Int):=by omega
   clear hj O ew m hf ht M L qY sk J9 GH h0 hb s Q;gi_wp2
   go_end0
   obtain rfl:i=N:=AP;exact⟨⟨_,rfl⟩,X.out,Z.out⟩
def ZI:vef.funcs[(153:Nat)]?=some f153:=veb func153
@[simp] theorem aGG:dk false 153:=cq ZI AM
theorem Ug:vef.funcs[(143:Nat)]?=some f143:=veb func143
@[simp] theorem aGH:dk false 143:=cq Ug AM
theorem ZF:gz prog false f125=true:=by decide+kernel
def ap9:vef.funcs[(125:Nat)]?=some f125:=a5 (upd:=false) func125 ZF
def ZB(a:Int)(w:aH):Calls vef 153 #[.I a] w λe w'=>e=.returned (.F)/\w'=w:=by
 go_enter ZI,ntmps153
 go_wp2
 go_ret
 simp
def ZA(a b:Int)(w:aH):Calls vef 143 #[.I a,.I b] w λe w'=>e=.returned (.I (qi a b))/\w'=w:=by
 unfold qi;by_cases c:a<b
 .simp only[c,vbr];go_enter Ug,ntmps143
  go_wp2_with (go_at_call 153;refine(ZB _ _).mono ?_;rintro e w' ⟨rfl,rfl⟩)
  go_ret
  simp
 .by_cases d:b<a;focus
   simp only[c,d,vbr,vbv]
  rotate_left
  focus
   simp only[c,d,vbv]
  rotate_left
  all_goals
   go_enter Ug,ntmps143
   go_wp2_with (go_at_call 153;refine(ZB _ _).mono ?_;rintro e w' ⟨rfl,rfl⟩)
   go_ret
   simp
def ap_(a b:Int)(b1 f h b2 d g:Nat)(w:aH)(l:w.cell? (.a b1 f)=some (.I a))(k:w.cell? (.a b2 d)=some (.I b)):
 Calls vef 125 #[.S b1 f 1 h,.S b2 d 1 g] w λe _=>∃z:Int,e=.returned (.I z)/\(z<0↔a<b):=by
 go_enter ap9,ntmps125
 go_wp2
 go_loopw [11] (λp W=>W=w/\((p=.I 0)\/(p=.I 1/\a=b))) (λp _=>1-(intOf p).toNat)
 case atStart=>exact⟨rfl,.inl rfl⟩
 case round=>
  obtain⟨rfl,rfl|⟨rfl,rfl⟩⟩:=hrel
  .by_cases j:a=b
   .subst j;have h0:qi a a=0:=by simp[qi]
    go_wp2_with (go_at_call 143;refine(ZA _ _ _).mono ?_;rw[h0];rintro e w' ⟨rfl,rfl⟩)
    go_roundw
    case rel=>simp
    case measure=>simp[intOf]
   .have h0:(qi a b==0)=false:=by grind[qi]
    have c:Hid (qi a b<0↔a<b):=by grind[qi,Hid]
    generalize i:qi a b=z at h0 c;go_wp2_with (go_at_call 143;refine(ZA _ _ _).mono ?_;rw[i];rintro e w' ⟨rfl,rfl⟩)
    go_ret
    exact⟨z,rfl,c.out⟩
  .go_wp2
   go_ret
   exact⟨0,rfl,AP⟩
end dI
namespace bU
open RowKit au
def Zz:vef.funcs[(173:Nat)]?=some f173:=veb func173
def j9(outs:Nat->bw)(fr n:Nat):List Nat:=(List.range' fr n).filter λi=>rk (outs i)
theorem N7(outs:Nat->bw)(fr n:Nat):j9 outs fr (n+1)=j9 outs fr n++(if rk (outs (fr+n))then [fr+n]else []):=by simp only[j9,List.range'_concat,List.filter_append,Nat.one_mul];grind
def aqa(outs:Nat->bw)(fr n m:Nat):∃l,j9 outs fr (n+m)=j9 outs fr n++l:=by induction m with|zero=>simp_all|succ m a=>grind[N7]
def aqb(outs:Nat->bw)(fr:Nat){n m:Nat}(h:n<m)(ht:rk (outs (fr+n))=true):(j9 outs fr n).length<(j9 outs fr m).length/\(j9 outs fr m)[(j9 outs fr n).length]?=some (fr+n)/\(j9 outs fr (n+1)).length=(j9 outs fr n).length+1:=by obtain⟨l,e⟩:=aqa outs fr (n+1) (m-(n+1));rw[show n+1+(m-(n+1))=m by omega,N7,ht]at e;simp[e,N7,ht]
def mz(rs:List bh)(outs:Nat->bw)(fr bQ:Nat):List bh:=(j9 outs fr (bQ-fr)).map λi=>rs[i]?.getD ([],[])
def N8(w0:aH)(r:bh)(W:aH)(x:Value):Prop:=
 (∃pv cI,x=.agg #[pv,cI]/\iQ w0 pv r.1/\j5 w0 cI r.2)/\∀(b:Nat)(c:fi)(e:uab)(z:ubv),w0.heap[b]?=some (Obj.cells c e z)->W.heap[b]?=some (Obj.cells c e z)
def aqc(w0:aH)(r:Nat->bh):Gb w0.heap.size (λt=>N8 w0 (r t)):=by refine⟨λt W x h=>?_,λt W W' x h hk=>⟨h.1,λb c e z a=>hk _ _ _ _ (h.2 b c e z a) (.inl (ml a))⟩⟩;obtain⟨⟨pv,cI,rfl,⟨a1,c1,rfl,-⟩,⟨d,co,rfl,-⟩⟩,-⟩:=h;grind
theorem aqd{w0:aH}{r:bh}{w:aH}{p q:Value}(h:N8 w0 r w (.agg #[p,q])):iQ w p r.1/\j5 w q r.2:=by
 obtain⟨⟨pv,cI,e,c,a⟩,hk⟩:=h;simp at e;obtain⟨rfl,rfl⟩:=e;have d:br w0 w:=λb o v hv=>by grind[u9,oo]
 grind[aZ.mono,AF,vN]
def aqe{n:Nat}(ts:List bH)(rs:List bh)(ev aA:Value)(fr g:Nat)(outs:Nat->bw)(w0:aH)(hv:rS w0 ev ts)(hc:eS w0 aA rs)(r9:ts.length<=900)(nU:fr<g)(s3:g<=rs.length)(pp:rs.length<=1000000)(hrun:∀i(h:i<rs.length),dI.lI rs[i].2 ts [] (some [outs i]))(y7:∃a c,aA=.slice a rs.length c/\rs.length<=c)(N gF ee:Nat)(x:w0.cell? (.a N 0)=some ev)(w:w0.cell? (.a N 1)=some aA)(L:w0.cell? (.a gF 0)=some (.I fr))(ht:w0.cell? (.a ee 0)=some (.I g)):
 Ga n vef 173 #[.P N 0,.P gF 0,.P ee 0] (λk=>N8 w0 ((mz rs outs fr g)[k]?.getD ([],[]))) (j9 outs fr (g-fr)).length w0.heap.size w0:=by
 intro l S J W s rY vv I h0;have C:=MZ rY vv;clear vv rY;have u:=br.ck s;have qY:=u _ _ _ L;have sk:=u _ _ _ ht;have J9:=u _ _ _ x;have GH:=u _ _ _ w;obtain⟨bm,cap,rfl,-,-⟩:=id hv;obtain⟨fL,N4,rfl,y7⟩:=y7;obtain⟨ap4,ap5,M,-,D⟩:=id hc;cases M;obtain⟨bT,jZ,rfl,-⟩:=D 0 AP;refine callsIn_of_wp Zz rfl trivial ?_ rfl;simp[vbq];gi_wp2
 gi_loopw [13] (λp wr=>∃i:Nat,fr+i<=g/\p=.I (i:Int)/\J (j9 outs fr i).length wr/\cy w0 wr/\Below w0.heap.size W wr) (λp _=>g-fr-(intOf p).toNat)
 case atStart=>exact⟨0,AP,rfl,by grind[j9],s,vaa _ _⟩
 case round=>
  obtain⟨i,k0,rfl,K,B,P⟩:=hrel;have q:=br.ck B;have Di:=q _ _ _ x;have FH:=q _ _ _ w;have N5:=fB Di;have qZ:Hid (rS wr _ ts):=aZ.mono tT q hv;have F:Hid (J (j9 outs fr i).length wr):=K;have r:Hid (cy w0 wr):=B;have H:Hid (Below w0.heap.size W wr):=P;by_cases hlt:fr+i<g
  .have jN:fr+i<rs.length:=by omega
   obtain⟨b',F0,vT,pv,cI,T,d1,O,y⟩:=D (fr+i) jN;cases vT;obtain⟨R,pc,rfl,-,-⟩:=id O;obtain⟨X,U,rfl,-,-⟩:=id y;simp at T;have Q:=q _ _ _ T;have e1:=q _ _ _ d1;have bX:=fB Q;have y6:Hid (j5 wr _ _):=aZ.mono vN q y;have Z:Hid (iQ w0 _ _):=O;have Y:Hid (j5 w0 _ _):=y;have rX:(i:Int)<((g-fr:Nat):Int):=AP;have vq:(0:Int)<=(i:Int):=AP;have cu:jZ+(fr+i)*2=jZ+fr*2+i*2:=AP;rw[cu]at Q e1;have T7:Hid (dI.lI rs[fr+i].2 ts [] (some [outs (fr+i)])):=hrun (fr+i) jN;clear K B P q L ht x w qY sk J9 GH h0 s u T d1 D cu O y hrun;gi_wp2
   have A:cy wr (wr.alloc (.cells #[.slice R rs[fr+i].1.length pc,.slice X rs[fr+i].2.length U] 79)):=(vaa _ wr).alloc Kj _;refine⟨PA,λh=>Bu,(callsIn_wide.2 (show Calls _ _ _ _ (λe w2=>e=.returned (du (outs (fr+i)))/\_)from dI.T5 ts _ _ _ rs[fr+i].2 (some (outs (fr+i))) _ (aZ.mono tT (br.ck A) qZ.out) ⟨_,_,_,rfl⟩ (aZ.mono vN (br.ck A) y6.out) r9 T7.out)).mono ?_⟩;rintro e w2 ⟨rfl,V⟩;have abB:Hid (ag w2 wr.heap.size #[.slice R rs[fr+i].1.length pc,.slice X rs[fr+i].2.length U] 79):=(ag.new wr _ _).call V;have v:Hid (cy wr w2):=Below.step V A AQ;obtain⟨t1,d_,t3⟩:=abB.out.all;have Kd:(j9 outs fr (i+1)).length=(j9 outs fr i).length+(if rk (outs (fr+i))=true then 1 else 0):=by grind[N7]
   have cR:=aqb outs fr (n:=i) (m:=g-fr) AP;clear V A Q e1;generalize hd:outs (fr+i)=d at *;obtain⟨bJ,j,ds,o⟩:=d;cases E:rk ⟨bJ,j,ds,o⟩with
   |false=>
    gi_wp2
    refine⟨PA,λh=>Bu,(callsIn_wide.2 (Yr ⟨bJ,j,ds,o⟩ E _)).mono ?_⟩;rintro e w3 ⟨rfl,rfl⟩;have t:Hid (Below w0.heap.size wr (w2.alloc (.cells #[.bool bJ,.I j,.I ds,.string o] 96))):=((v.out.mono r.out.size)).alloc (by have:=v.out.size;have:=r.out.size;omega) (.cells #[.bool bJ,.I j,.I ds,.string o] 96);have Kc:Hid (J (j9 outs fr (i+1)).length (w2.alloc (.cells #[.bool bJ,.I j,.I ds,.string o] 96))):=by rw[Kd,E];exact C _ _ _ F.out (v.out.alloc v.out.size (.cells #[.bool bJ,.I j,.I ds,.string o] 96))
    clear Kd cR I C t1 d_ t3;gi_wp2
    refine⟨λf h=>(by cases h),?_⟩;gi_wp2
    go_roundw
    case rel=>exact⟨i+1,AP,AQ,Kc.out,r.out.trans t.out,H.out.trans t.out⟩
    case measure=>simp[intOf];omega
   |true=>
    gi_wp2
    refine⟨PA,λh=>Bu,(callsIn_wide.2 (Yr ⟨bJ,j,ds,o⟩ E _)).mono ?_⟩;rintro e w3 ⟨rfl,rfl⟩;have t:Hid (cy wr (w2.alloc (.cells #[.bool bJ,.I j,.I ds,.string o] 96))):=v.out.alloc v.out.size _;obtain⟨k1,k2,k3⟩:=cR E;have b4:N8 w0 ((mz rs outs fr g)[(j9 outs fr i).length]?.getD ([],[])) (w2.alloc (.cells #[.bool bJ,.I j,.I ds,.string o] 96)) (.agg #[.slice R rs[fr+i].1.length pc,.slice X rs[fr+i].2.length U]):=by
     have e:(mz rs outs fr g)[(j9 outs fr i).length]?.getD ([],[])=rs[fr+i]:=by grind[mz]
     rw[e];exact⟨⟨_,_,rfl,Z.out,Y.out⟩,λb c e z s=>((r.out.trans (t.out.mono r.out.size)).block b (ml s)).trans s⟩
    obtain⟨fn,tmps,assign,body,hy,bt⟩:=I _ _ _ (C _ _ _ F.out t.out) k1 b4;clear b4 cR Kd I C k1 k2;gi_wp2
    refine⟨λh=>Bu,bt.mono ?_⟩;rintro e oD ⟨rfl,xq,kq⟩;have Kc:Hid (J (j9 outs fr (i+1)).length oD):=by rw[k3];exact xq
    have zd:Hid (Below w0.heap.size wr oD):=(t.out.mono r.out.size).trans kq;clear bt hy xq kq k3 t1 d_ t3;gi_wp2
    go_roundw
    case rel=>exact⟨i+1,AP,AQ,Kc.out,r.out.trans zd.out,H.out.trans zd.out⟩
    case measure=>simp[intOf];omega
  .have rX:¬(i:Int)<((g-fr:Nat):Int):=by omega
   clear K B P q L ht x w qY sk J9 GH h0 s u D;gi_wp2
   go_end0
   have e:g-fr=i:=AP;rw[e];exact⟨⟨_,rfl⟩,F.out,H.out⟩
