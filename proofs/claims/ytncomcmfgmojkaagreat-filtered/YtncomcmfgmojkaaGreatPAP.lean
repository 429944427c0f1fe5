import Derived.Test.YtncomcmfgmojkaaGreatPAM
import Derived.Test.YtncomcmfgmojkaaGreatPAN
set_option linter.all false
set_option maxRecDepth 100000
set_option maxHeartbeats 16000000
namespace Go.Proofs.YtncomcmfgmojkaaGreat
open Go.Proofs.Tryz
namespace bN
open RowKit Shelf av bZ
def Mt(w0:aO)(rs:List bB)(t:Nat)(W:aO)(x:Value):Prop:=∃(h:t<rs.length)(gr:Option Addr)(pc:Nat)(b4:Option Addr)(b7:Nat),x=.agg #[.slice gr rs[t].1.length pc,.slice b4 rs[t].2.length b7]/\lO w0 (.slice b4 rs[t].2.length b7) rs[t].2/\bo w0 W
theorem func32:(ae prog true).funcs[(32:Nat)]?=some Tryz.f32:=a6 (upd:=true) Tryz.func32 AV
variable{n:Nat}
def amy(rs:List bB)(aT:Value)(cL:Nat)(w0:aO)(M:hE w0 aT rs)(L:rs.length<=1000000)(h1:w0.cell? ⟨cL,0,none⟩=some aT):
 E9 n (ae prog true) 32 #[.pointer (some ⟨cL,0,none⟩)] (Mt w0 rs) rs.length w0.heap.size w0:=by
 intro l S J W f u s A h0;have E:=Q0 u s;clear s u;have j:=bo.cj f;have v:=j _ _ _ h1;obtain⟨X,cap,rfl,-,o⟩:=M;refine callsIn_of_wp func32 rfl trivial ?_ rfl;simp[Array.replicate_succ];gi_wp2
 gi_loopw [7] (λp wr=>∃i:Nat,i<=rs.length/\p=.int .i64 (i:Int)/\J i wr/\Below w0.heap.size w0 wr/\Below w0.heap.size W wr) (λp _=>rs.length-(intOf p).toNat)
 case atStart=>exact⟨0,Nat.zero_le _,rfl,h0,f,Below.refl _ _⟩
 case round=>
  obtain⟨i,T,rfl,B,C,F⟩:=hrel;have x:Hid (J i wr):=B;have c:Hid (Below w0.heap.size w0 wr):=C;have y:Hid (Below w0.heap.size W wr):=F;clear B C F;by_cases a:i<rs.length
  .obtain⟨b,off,rfl,pv,dn,k,d1,w,g⟩:=o i a;obtain⟨D,pc,rfl,-,-⟩:=id w;obtain⟨r,q,rfl,-,-⟩:=id g;have m:=bo.cj c.out;simp at k;have N:=m _ _ _ k;have U:=m _ _ _ d1;have V:=fS N;have O:Hid (lO w0 (.slice r rs[i].2.length q) rs[i].2):=g;have I:(i:Int)<(rs.length:Int):=As;have Q:(0:Int)<=(i:Int):=As;clear m k d1 o w g h0 f j v h1;have d:Below wr.heap.size wr (wr.alloc (.cells #[.slice D rs[i].1.length pc,.slice r rs[i].2.length q] 81)):=(Below.refl _ wr).alloc J1 _;obtain⟨fn,tmps,assign,body,K,H⟩:=A i _ _ (E _ _ _ x.out d) a ⟨a,D,pc,r,q,rfl,O.out,bo.cj (c.out.trans (d.mono c.out.size))⟩;have t:Hid _:=d;clear A E d;gi_wp2
   refine⟨λh=>DT,H.mono ?_⟩;rintro e R ⟨rfl,P,z⟩;clear H K;gi_wp2
   go_roundw
   case rel=>exact⟨i+1,As,A_,P,c.out.trans ((t.out.mono c.out.size).trans z),y.out.trans ((t.out.mono c.out.size).trans z)⟩
   case measure=>simp[intOf];omega
  .have I:¬(i:Int)<(rs.length:Int):=by omega
   clear o h0 f j v h1;gi_wp2
   go_end0
   have e:rs.length=i:=As;rw[e];exact⟨⟨_,rfl⟩,x.out,y.out⟩
structure hH(Y:TypeId->Prop)(W W':aO):Prop where
 size:W.heap.size<=W'.heap.size
 cells:∀(b:Nat)(c:Array Value)(e:TypeId)(z:Nat×Nat),W.heap[b]?=some (Obj.cells c e z)->Y e->W'.heap[b]?=some (Obj.cells c e z)
variable{Y:TypeId->Prop}
theorem hH.trans{A B C:aO}(h:hH Y A B)(k:hH Y B C):hH Y A C:=⟨Nat.le_trans h.size k.size,λb c e z x y=>k.cells b c e z (h.cells b c e z x y) y⟩
variable{W W':aO}
def hH.pt(h:jG W W'):hH Y W W':=⟨h.size,λb c e z x _=>h.cells b c e z x⟩
variable{b:Nat}{cs:Array Value}
def hH.set{T:TypeId}(h:ag W b cs T)(a:¬Y T)(o:Nat)(v:Value):hH Y W (W.setCell ⟨b,o,none⟩ v):=
 ⟨Br,λk c e z x y=>by
  grind[ag,Below.heap_setCell]⟩
def amz(h:Below W.heap.size W W'):KeepsOthers W W':=⟨h.size,λ_ _ x _=>(h.block _ (nd x)).trans x⟩
def Sg(Y:TypeId->Prop)(n:Nat)(P:cg)(g:Nat)(lb:Array Value)(Row:Nat->aO->Value->Prop)(N nZ:Nat)(w0:aO):Prop:=
 ∀(l:Nat)(S:Nat->Prop)(J:Nat->aO->Prop)(W:aO),Below nZ w0 W->nZ<=W.heap.size->(∀b,S b->b<W.heap.size)->(∀t W W',J t W->hH (λe=>¬Y e) W W'->(∀b,S b->W'.heap[b]?=W.heap[b]?)->J t W')->
  (∀t x W1,J t W1->t<N->Row t W1 x->nZ<=W1.heap.size->YieldAt Fence.wide (n-1) P l #[x] W1 λe W'=>e=.returned (.bool true)/\J (t+1) W'/\Below nZ W1 W'/\KeepsOthers W1 W'/\hH Y W1 W')->
  J 0 W->CallsIn Fence.wide n P g (#[.func (.yield l) #[] #[]]++lb) W λe W'=>(∃v,e=.returned v)/\J N W'/\Below nZ W W'
variable{N gf:Nat}{w:aO}{lb:Array Value}{assign body:Code}
def amA{P:cg}{g:Operand}{p:Tmp}{Q:Exit->Act->aO->Prop}{a:Act}{Row:Nat->aO->Value->Prop}{nZ:Nat}{w0:aO}(hg:a.eval g=.func (.func gf) #[] lb)(za:∀args w,(callFunc gf args).run P w=.ok (.enter gf args) w)(H:Sg Y (n-1) P gf lb Row N nZ w0)(L:Below nZ w0 w)(hn:nZ<=w.heap.size)(I:Nat->aO->Prop)(j:∀t W W',I t W->hH (λe=>¬Y e) W W'->I t W')(h0:I 0 w)(q:Nat->Value->Act->aO->Prop)(Q1:∀t x a' W W',q t x a' W->jG W W'->q t x a' W')(Q2:∀(l t:Nat)(x:Value)(W:aO)(K:Act->aO->Prop),I t W->t<N->Row t W x->(∀a' W',Below W.heap.size W W'->q t x a' W'->K a' W')->
  assign.wpIn (Fence.wide.inRound l) (n-1-1) P (Exit.then K (λ_ _ _=>False)) {tmps:=a.tmps.setIfInBounds p x,defers:=[]} W)(AY:∀(l t:Nat)(x:Value)(a':Act)(W:aO),I t W->t<N->q t x a' W->nZ<=W.heap.size->body.wpIn (Fence.wide.inRound l) (n-1-1) P (λe _ W'=>e=.normal/\KeepsOthers W W'/\Below nZ W W'/\hH Y W W'/\I (t+1) W') a' W)(hdone:∀W,I N W->Below nZ w W->W.heap[w.heap.size]?=some (.deferred (some []))->Q .normal {a with defers:={target:=.collected w.heap.size,args:=#[]}::a.defers} W):
 (Code.rangeFunc g #[p] assign body).wpIn Fence.wide n P Q a w:=by
 refine wpIn_rangeFunc ?_;intro fn S;obtain⟨rec,D⟩:∃rec:LoopState->Loop,rec=λst=>{state:=st,pending:=none,fn,tmps:=a.tmps,params:=#[p],assign,body,defers:=w.heap.size}:=⟨_,rfl⟩;obtain⟨c,Q3⟩:∃c,(w.alloc (.deferred (some []))).alloc (.loop (rec .ready))=c:=⟨_,rfl⟩;have Hr:c.heap[w.heap.size+1]?=some (.loop (rec .ready)):=by grind[World.alloc_heap_new,World.size_alloc]
 have Q4:c.heap[w.heap.size]?=some (.deferred (some [])):=by grind[Below.heap_alloc,World.alloc_heap_new]
 have A:Below w.heap.size w c:=by rw[<-Q3];exact((Below.refl _ w).alloc J1 _).alloc A_ _
 refine⟨w.heap.size+1,[{target:=.collected w.heap.size,args:=#[]}],c,{target:=.fn (.func gf) lb,args:=#[.func (.yield (w.heap.size+1)) #[] #[]]},c,gf,#[.func (.yield (w.heap.size+1)) #[] #[]]++lb,c,?_,?_,λ_ _=>trivial,?_,λh=>DT,?_⟩
 .simp_all[run_enterLoop_outer]
 .simp only[resolve,hg];simp[go_sem]
 .grind[invoke]
 .refine(H (w.heap.size+1) (λb=>b=w.heap.size\/b=w.heap.size+1) (λt W=>I t W/\W.heap[w.heap.size+1]?=some (.loop (rec .ready))/\W.heap[w.heap.size]?=some (.deferred (some []))) c (L.trans (A.mono hn)) AA ?_ ?_ ?_ ⟨j _ _ _ h0 (.pt (jG.below A)),Hr,Q4⟩).mono ?_
  .grind
  .grind
  .rintro t x W ⟨hi,f,hk⟩ i cb O;have z:=run_yield (P:=P) (args:=#[x]) f AA;rw[D]at z;refine⟨fn,_,assign,body,z,roundIn_of_wpIn S ?_⟩;clear z;have Z:(#[p].zip #[x]).foldl (λtmps(u:Tmp×Value)=>tmps.setIfInBounds u.1 u.2) a.tmps=a.tmps.setIfInBounds p x:=A_;refine Eq.mp (congrArg (λT=>Code.wpIn (Fence.wide.inRound (w.heap.size+1)) (n-1-1) P assign _ {tmps:=T,defers:=[]} W) Z.symm) ?_;refine Q2 _ t x W _ hi i cb ?_;intro a' C d Q6;have m:=(d.block _ (nd f)).trans f;have X:=(d.block _ (nd hk)).trans hk;refine⟨_,run_beginRound m AA,?_⟩;have R:(C.putObj (w.heap.size+1) (.loop {rec .ready with state:=.busy})).heap[w.heap.size+1]?=some (.loop {rec .ready with state:=.busy}):=World.putObj_heap_same (nd m);have M:(C.putObj (w.heap.size+1) (.loop {rec .ready with state:=.busy})).heap[w.heap.size]?=some (.deferred (some [])):=(World.putObj_heap_other As).trans X;refine wpIn_mono (AY _ t x a' _ (j _ _ _ (j _ _ _ hi (.pt (jG.below d))) (.pt (jG.put m))) i (Q1 _ _ _ _ _ Q6 (.put m)) AA) ?_;rintro e bX J ⟨rfl,r,F,Mu,E⟩;have s:=r.same _ _ R rfl;have H9:=r.same _ _ M rfl;have U:=run_endRound (P:=P) none s;have jk:(J.putObj (w.heap.size+1) (.loop (rec .ready))).heap[w.heap.size+1]?=some (.loop (rec .ready)):=World.putObj_heap_same (nd s);refine⟨_,_,U,rfl,⟨j _ _ _ E (.pt (jG.put s)),?_,(World.putObj_heap_other As).trans H9⟩,?_,⟨?_,λk o x y=>?_⟩,?_⟩
   .grind
   .exact((d.mono O).trans ((xd _ As).trans F)).trans (xd _ As)
   .have:=d.size;have:=r.size;simp at this⊢;omega
   .by_cases B:k=w.heap.size+1
    .grind
    .exact(World.putObj_heap_other B).trans (r.same _ _ ((World.putObj_heap_other B).trans ((d.block _ (nd x)).trans x)) y)
   .exact(((hH.pt (jG.below d)).trans (.pt (jG.put m))).trans Mu).trans (.pt (jG.put s))
  .rintro e W2 ⟨⟨v,rfl⟩,⟨hi,f,hk⟩,V⟩;refine⟨none,_,by have:=run_endLoop (P:=P) f AA;rw[D]at this;exact this,hdone _ (j _ _ _ hi (.pt (jG.put f))) ?_ ((World.putObj_heap_other As).trans hk)⟩;exact((A.mono hn).trans V).trans (xd _ As)
def amB{m a l b:Nat}{P:cg}{f:FuncId}{tmps:Array Value}{R:Ending->aO->Prop}(h:RoundIn Fence.wide m P l f tmps assign body w R):RoundIn (Fence.wide.inRound b) a P l f tmps assign body w R:=⟨h.1,λc cs _=>h.2 c cs (λd hd=>by simp[Fence.wide]at hd)⟩
section
theorem func31:(ae prog true).funcs[(31:Nat)]?=some Tryz.f31:=a6 (upd:=true) Tryz.func31 AV
attribute [local go_sem] Oper.semAt_some
def r9(e:TypeId):Prop:=e=3\/e=95
def BS(h:jG W W'){o:Nat}{v:Value}(a:W.cell? ⟨b,o,none⟩=some v):W'.cell? ⟨b,o,none⟩=some v:=by
 have:∃c e z,W.heap[b]?=some (.cells c e z)/\c[o]?=some v:=by unfold World.cell? at a;grind
 obtain⟨c,e,z,h1,d⟩:=this;have:=h.cells _ _ _ _ h1;grind[World.cell?]
def amC{Row:Nat->aO->Value->Prop}(H g i:Nat)(w0:aO)(vA:∀n,E9 n (ae prog true) gf lb Row N w0.heap.size w0)(za:∀args w,(callFunc gf args).run (ae prog true) w=.ok (.enter gf args) w)(M:∀t W x,Row t W x->∃p pl pc q c a,x=.agg #[.slice p pl pc,.slice q c a])(cb:∀t W W' x,jG W W'->Row t W x->Row t W' x)(a0:N<=1000000)(h1:w0.cell? ⟨H,0,none⟩=some (.func (.func gf) #[] lb))(f:w0.cell? ⟨g,0,none⟩=some (.int .i64 0))(h3:w0.cell? ⟨i,0,none⟩=some (.int .i64 9223372036854775807)):
 Sg r9 n (ae prog true) 31 #[.pointer (some ⟨H,0,none⟩),.pointer (some ⟨g,0,none⟩),.pointer (some ⟨i,0,none⟩)] Row N w0.heap.size w0:=by
 intro l S J W A C hS m R h0;have k:=bo.cj A;have s:=k _ _ _ h1;have o:=k _ _ _ f;have B:=k _ _ _ h3;have BU:=fS s;refine callsIn_of_wp_marks func31 rfl trivial ?_;simp[Array.replicate_succ];gi_wp2
 have d:Below W.heap.size W ((W.alloc (.cells #[.func (.yield l) #[] #[]] 95)).alloc (.cells #[.int .i64 0] 3)):=((Below.refl _ W).alloc J1 _).alloc A_ _;refine X0 (n:=n) (gf:=gf) (lb:=lb) (w0:=w0) (nZ:=w0.heap.size) (N:=N) (Row:=Row) rfl za (vA _) (A.trans (d.mono C)) Bg S (λb hs=>by have:=hS b hs;simp;omega)
  (λt V=>J t V/\ag V W.heap.size #[.func (.yield l) #[] #[]] 95/\ag V (W.heap.size+1) #[.int .i64 t] 3/\V.cell? ⟨g,0,none⟩=some (.int .i64 0)/\V.cell? ⟨i,0,none⟩=some (.int .i64 9223372036854775807))
  (λt V xx h hk hs=>⟨m _ _ _ h.1 (.pt hk) hs,hk.cells _ _ _ _ h.2.1,hk.cells _ _ _ _ h.2.2.1,BS hk h.2.2.2.1,BS hk h.2.2.2.2⟩)
  ⟨m _ _ _ h0 (.pt (.below d)) (λb hs=>d.block b (hS b hs)),(ag.new W _ _).alloc _,by have:=ag.new (W.alloc (.cells #[.func (.yield l) #[] #[]] 95)) #[.int .i64 0] 3;simp_all,BS (.below d) o,BS (.below d) B⟩
  (λt x a' V=>∃j p pl pc q c a,ag V j #[.slice p pl pc,.slice q c a] 81/\x=.agg #[.slice p pl pc,.slice q c a]/\Row t V x/\∃z,a'={tmps:=#[.func (.yield l) #[] #[],.pointer (some ⟨H,0,none⟩),.pointer (some ⟨g,0,none⟩),.pointer (some ⟨i,0,none⟩),.pointer (some ⟨W.heap.size,0,none⟩),.pointer (some ⟨W.heap.size+1,0,none⟩),.pointer (some ⟨j,0,none⟩),.func (.func gf) #[] lb,z,undef,undef,undef,undef,undef,undef,undef,undef,undef,undef,undef,undef,undef,undef,undef,undef],defers:=[]})
  (λt x a' V xx h hk _=>by
   obtain⟨j,p,pl,pc,q,c,a,h1,f,h3,F⟩:=h;exact⟨j,p,pl,pc,q,c,a,hk.cells _ _ _ _ h1,f,AA,F⟩)
  ?assign ?body ?done
 case assign=>
  rintro l' t x V K- -v hK;obtain⟨p,pl,pc,q,c,a,rfl⟩:=M _ _ _ v;clear s o B h1 f h3 A k h0;gi_wp2
  have U:Below V.heap.size V (V.alloc (.cells #[.slice p pl pc,.slice q c a] 81)):=(Below.refl _ V).alloc J1 _;exact hK _ _ U ⟨V.heap.size,p,pl,pc,q,c,a,ag.new V _ _,rfl,cb _ _ _ _ (.below U) v,_,rfl⟩
 case body=>
  rintro l' t x a' V ⟨y,D,O,L,Mx⟩ E ⟨j,p,pl,pc,q,c,a,cE,rfl,v,z,rfl⟩ kT;obtain⟨fn,tmps,assign,body,hy,bE⟩:=R t _ _ y E v kT;obtain⟨c0,dA,eX⟩:=cE.all;obtain⟨kg,o9,qe⟩:=D.all;obtain⟨fM,gQ,gR⟩:=O.all;have T:=fS f;have Z:=fS h3;have tP:Hid _:=@m;have Ie:Hid _:=hS;have F:Hid _:=D;have a4:Hid _:=O;have IG:Hid _:=L;have My:Hid _:=Mx;have X:Hid _:=T;have I:Hid _:=Z;have Q:Hid _:=C;have Sk:¬(9223372036854775807:Int)<=(t:Int):=As;have Sl:(0:Int)<=(t:Int):=As;have BV:Hid _:=d;clear s o B h1 f h3 A k h0 R m hS D O y T Z d C;gi_wp2_with (refine⟨λh=>DT,(amB bE).mono ?_⟩;rintro e r ⟨rfl,Bi,u,Sm,BW⟩;have c4:ag r W.heap.size _ _:=BW.cells _ _ _ _ F.out K1;have P:ag r (W.heap.size+1) _ _:=BW.cells _ _ _ _ a4.out Kg;obtain⟨u1,u2,u3⟩:=P.all)
  have k2:=u.block;have e1:(r.setCell ⟨W.heap.size+1,0,none⟩ (.int .i64 (t+1))).cell? ⟨g,0,none⟩=V.cell? ⟨g,0,none⟩:=World.cell?_of_block ((Below.heap_setCell _ _ _ _ (by have:=X.out;have:=Q.out;grind)).trans (u.block _ X.out));have e2:(r.setCell ⟨W.heap.size+1,0,none⟩ (.int .i64 (t+1))).cell? ⟨i,0,none⟩=V.cell? ⟨i,0,none⟩:=World.cell?_of_block ((Below.heap_setCell _ _ _ _ AA).trans (u.block _ I.out));refine⟨Sm.trans (KeepsOthers.setCell _ _ _),u.setCell (by have:=Q.out;grind) _,tP.out _ _ _ Bi (hH.set P (λh=>h Kg) _ _) (λb hs=>Below.heap_setCell _ _ _ _ (by have:=Ie.out b hs;grind)),c4.iA A_ _,?_,e1.trans IG.out,e2.trans My.out⟩;have:=P.set 0 (.int .i64 (t+1));grind
 case done=>
  rintro V ⟨y,-⟩ hB hK;clear s o B h1 f h3;gi_wp2
  refine⟨A_,.inl ⟨_,_,rfl,run_takeDeferred hK,?_⟩⟩;refine⟨.tuple #[],by simp[results,results31,go_sem],⟨_,rfl⟩,m _ _ _ y (.pt (LD hK)) (λb hs=>World.putObj_heap_other (by have:=hS b hs;simp;omega)),((d.mono C).trans hB).trans (xd _ Bg)⟩
end
def oH(k:Int)(D:Nat->bD)(n:Nat):List Value:=if k=3 then []else(List.range n).map λr=>.int .i64 (D r).num
def oI(k:Int)(D:Nat->bD)(n:Nat):List Value:=if k=3 then(List.range n).map λr=>.string (D r).text else []
def r_(D:Nat->bD)(n:Nat):List Value:=(List.range n).map λr=>.bool (D r).eG
def amG(k:Int)(D:Nat->bD)(n:Nat):(oH k D n).length<=n:=by grind[oH]
def amH(k:Int)(D:Nat->bD)(n:Nat):(oI k D n).length<=n:=by grind[oI]
def amI(D:Nat->bD)(n:Nat):(r_ D n).length=n:=by simp[r_]
theorem Zk(D:Nat->bD)(n:Nat):r_ D (n+1)=r_ D n++[.bool (D n).eG]:=by simp[r_,List.range_succ]
variable{k:Int}
theorem amJ(h:k≠3)(D:Nat->bD)(n:Nat):oH k D (n+1)=oH k D n++[.int .i64 (D n).num]:=by simp[oH,List.range_succ,h]
theorem amK(h:k=3)(D:Nat->bD)(n m:Nat):oH k D n=oH k D m:=by simp[oH,h]
theorem amL(h:k=3)(D:Nat->bD)(n:Nat):oI k D (n+1)=oI k D n++[.string (D n).text]:=by simp[oI,List.range_succ,h]
theorem amM(h:k≠3)(D:Nat->bD)(n m:Nat):oI k D n=oI k D m:=by simp[oI,h]
structure uj(l:List (Int×Int))(D:Nat->Nat->bD)(m:Nat->Nat)(L:List eJ)(cs:Array Value):Prop where
 size:cs.size=l.length*5
 xA:∀i(h:i<l.length),∃bg vs aY,cs[i*5]?=some (.int .i64 l[i].1)/\cs[i*5+1]?=some (.int .i64 l[i].2)/\cs[i*5+2]?=some bg/\cs[i*5+3]?=some vs/\cs[i*5+4]?=some aY/\
  L[3*i]?=some ⟨2,bg,oH l[i].1 (D · i) (m i)⟩/\L[3*i+1]?=some ⟨9,vs,oI l[i].1 (D · i) (m i)⟩/\L[3*i+2]?=some ⟨4,aY,r_ (D · i) (m i)⟩
 BX:∀i(h:i<L.length),L[i].e=2\/L[i].e=9\/L[i].e=4
variable{L:List eJ}
def Mz(h:∀i(h:i<L.length),L[i].e=2\/L[i].e=9\/L[i].e=4)(q:Nat)(x:eJ)(a:x.e=2\/x.e=9\/x.e=4):∀i(h:i<(L.set q x).length),(L.set q x)[i].e=2\/(L.set q x)[i].e=9\/(L.set q x)[i].e=4:=by grind
def vY(m:Nat->Nat)(i j:Nat):Nat:=if j=i then m j+1 else m j
theorem amN(m:Nat->Nat)(i:Nat):vY m i i=m i+1:=by simp[vY]
variable{i:Nat}
def amO(m:Nat->Nat){j:Nat}(h:j≠i):vY m i j=m j:=by simp[vY,h]
def FG{r:eJ}(h:L[i]?=some r):i<L.length:=(List.getElem?_eq_some_iff.1 h).1
theorem uj.vY{l:List (Int×Int)}{D:Nat->Nat->bD}{m:Nat->Nat}(h:uj l D m L cs)(hi:i<l.length){a:List eJ}{bg vs b:Value}(u:∀q,q≠3*i->q≠3*i+1->q≠3*i+2->a[q]?=L[q]?)(ht:∀i(h:i<a.length),a[i].e=2\/a[i].e=9\/a[i].e=4)(h0:a[3*i]?=some ⟨2,bg,oH l[i].1 (D · i) (m i+1)⟩)(h1:a[3*i+1]?=some ⟨9,vs,oI l[i].1 (D · i) (m i+1)⟩)(v:a[3*i+2]?=some ⟨4,b,r_ (D · i) (m i+1)⟩):
 uj l D (vY m i) a (q8 cs i (.int .i64 l[i].1) (.int .i64 l[i].2) bg vs b):=by
 refine⟨by simp[q8];exact h.size,λj o=>?_,ht⟩;by_cases e:j=i
 .subst e;have t:=h.size;obtain⟨c,a1,g,f,d⟩:=Yd (cs:=cs) (k:=j) (.int .i64 l[j].1) (.int .i64 l[j].2) bg vs b As;grind[amN]
 .rw[amO m e];obtain⟨p,n,wn,c,a1,g,f,d,w,s,r⟩:=h.xA j o;refine⟨p,n,wn,(vG (i:=0) _ _ _ _ _ e Ae).trans c,(vG _ _ _ _ _ e Ae).trans a1,(vG _ _ _ _ _ e Ae).trans g,(vG _ _ _ _ _ e Ae).trans f,(vG _ _ _ _ _ e Ae).trans d,?_,?_,?_⟩
  .grind
  .grind
  grind
variable{B:Nat}
def amP{l:List (Int×Int)}{D:Nat->Nat->bD}{m:Nat->Nat}(h:uj l D m L cs)(d:eH B w L)(t:B<=w.heap.size)(hi:i<l.length)(F:m i<=1000)(ht:(D (m i) i).text.size<=1000000){bg vs r:Value}(v:cs[i*5+2]?=some bg)(h3:cs[i*5+3]?=some vs)(u:cs[i*5+4]?=some r):
 Calls (ae prog true) 34 #[.agg #[.int .i64 l[i].1,.int .i64 l[i].2,bg,vs,r],eQ (D (m i) i)] w λe w'=>∃j n0 cX a1 n c1 a iv cr s,e=.returned (.agg #[.int .i64 l[i].1,.int .i64 l[i].2,.slice j n0 cX,.slice a1 n c1,.slice a iv cr])/\eH B w' s/\
  uj l D (vY m i) s (q8 cs i (.int .i64 l[i].1) (.int .i64 l[i].2) (.slice j n0 cX) (.slice a1 n c1) (.slice a iv cr))/\qc L w w':=by
 obtain⟨K,z,wn,j,a1,a,q,p,f,b,o⟩:=h.xA i hi;rw[v]at a;cases a;rw[h3]at q;cases q;rw[u]at p;cases p;obtain⟨E,A,rfl⟩:=m9 (show w.ownsRow B 2 1 bg (oH l[i].1 (D · i) (m i)).length _ from d.at f);obtain⟨C,J,rfl⟩:=m9 (show w.ownsRow B 9 1 vs (oI l[i].1 (D · i) (m i)).length _ from d.at b);have l0:=amG l[i].1 (D · i) (m i);have l1:=amH l[i].1 (D · i) (m i);have l2:=amI (D · i) (m i);have M:=FG f;have y:=FG b;have x:=FG o;refine(ajS d t f b o l[i].1 l[i].2 (D (m i) i) ht AA).mono ?_;rintro e w' ⟨⟨g,c,I,H,⟨hk,rfl,k⟩|⟨hk,rfl,k⟩⟩,hF⟩
 .refine⟨_,_,_,_,_,_,_,_,_,_,rfl,k,h.vY hi ?_ ?_ ?_ ?_ ?_,hF⟩
  .grind
  .exact Mz (Mz h.BX _ _ AA) _ _ Kg
  .grind[amJ]
  .grind[amM]
  grind[Zk]
 .refine⟨_,_,_,_,_,_,_,_,_,_,rfl,k,h.vY hi ?_ ?_ ?_ ?_ ?_,hF⟩
  .grind
  .exact Mz (Mz h.BX _ _ AA) _ _ AA
  .grind[amK]
  .grind[amL]
  grind[Zk]
def MA(h:eH B W L)(f:∀c e z,W.heap[b]?=some (.cells c e z)->∀i(h:i<L.length),L[i].e≠e):g8 L b:=by
 intro i hi hg;rcases(h.own i hi).2 with⟨hn,-⟩|⟨g,cap,be,a,-,d,-⟩
 .rw[hn]at hg;cases hg
 .rw[a]at hg;cases hg;grind
variable{w':aO}
def amQ(h:qc L w w')(b:eH B w L):KeepsOthers w w':=
 ⟨h.size,λk o x y=>(h.block k (nd x) (MA b λc e z a=>by rw[x]at a;cases a;cases y)).trans x⟩
def amR(h:qc L w w')(a:eH B w L)(d:∀i(h:i<L.length),¬Y L[i].e):hH Y w w':=
 ⟨h.size,λb c e z x y=>(h.block b (nd x) (MA a AA)).trans x⟩
def amS(h:qc L w w')(a:eH B w L)(hn:n<=B)(hs:n<=w.heap.size):Below n w w':=
 ⟨h.os,h.tape,h.output,h.size,λk hk=>h.block k As (a.ng AA)⟩
end bN
namespace bN
open RowKit
variable{i l n:Nat}{P:cg}{ops:Array Oper}{Q:Exit->Act->aO->Prop}{K:Act->aO->Prop}{a:Act}{w:aO}
def amU{K':Act->aO->Prop}(e:∀(i:Nat)(o:Oper),ops[i]?=some o->∀c,o.op≠ .defer c)(hK:∀a w,K a w->K' a w)(h:wpOpIn Fence.wide n P ops Q i K a w):wpOpIn (Fence.wide.inRound l) n P ops Q i K' a w:=by
 have h:=wpOpIn_mono (λa w=>hK a w) h;unfold wpOpIn at *;cases d:ops[i]? with
 |none=>grind
 |some o=>
  simp only[d]at h⊢;split
  .rename_i f;simp[f]at h;refine⟨h.1,?_⟩;have b:=h.2;rw[Oper.semAt_eq _ _ _ (e i o d)]at b⊢;generalize(execOp a.eval o).run P w=r at b⊢;cases r with|ok x w'=>cases x<;>exact b|halt x w'=>cases x<;>exact b
  simp_all
def amV{md:Region.Mode}(b:∀(i:Nat)(o:Oper),ops[i]?=some o->∀c,o.op≠ .defer c):∀(fuel:Nat)(listed:Array Bool)(a:Act)(w:aO),wpAnyIn Fence.wide n P md ops Q fuel listed a w->wpAnyIn (Fence.wide.inRound l) n P md ops Q fuel listed a w:=by intro fuel;induction fuel with|zero=>intro listed a w h;exact h|succ fuel d=>exact λlisted a w h=>⟨h.1,λi hi=>amU b AA (h.2 i hi)⟩
def Zm:Op->Bool
 | .defer _=>true
 | _=>false
def amW{id:Nat}(b:P.follows .mixedOrders=true)(hd:(ops.all λo=> !Zm o.op)=true)(h:wpAnyIn Fence.wide n P .any ops Q ops.size (Array.replicate ops.size false) a w.drew):(Code.region id ops true).wpIn (Fence.wide.inRound l) n P Q a w:=
 wpIn_region_any b (amV (λi o d c e=>by
  grind[Zm]) _ _ _ _ h)
def pu(C:aO->Prop)(n:Nat)(P:cg)(ops:Array Oper)(Q:Exit->Act->aO->Prop):Nat->Array Bool->Act->aO->Prop
 |0,listed,a,w=>Region.ready .any ops listed=[]/\Q .normal a w
 |fuel+1,listed,a,w=>(Region.ready .any ops listed=[]->Q .normal a w)/\∀i∈Region.ready .any ops listed,wpOpIn Fence.wide n P ops Q i (λa' w'=>C w'/\pu C n P ops Q fuel (listed.setIfInBounds i true) a' w') a w
variable{C:aO->Prop}
def BY:∀(fuel:Nat)(listed:Array Bool)(a:Act)(w:aO),pu C n P ops Q fuel listed a w->wpAnyIn Fence.wide n P .any ops Q fuel listed a w:=by intro fuel;induction fuel with|zero=>intro listed a w h;exact h|succ fuel b=>exact λlisted a w h=>⟨h.1,λi hi=>wpOpIn_mono AA (h.2 i hi)⟩
def sc(C:aO->Prop)(P:cg)(ops:Array Oper)(o:Oper)(v:Value)(a:Act):Prop:=
 Region.wanted o (yielded ops a.tmps)=true/\(∀w,C w->(execOp a.eval o).run P w=.ok (.value v) w)/\(∀c,o.op≠ .defer c)/\∀w,o.about P w a.eval=none
variable{o:Oper}{v:Value}
def sc.op(hi:ops[i]?=some o)(b:sc C P ops o v a)(d:C w)(h:K (a.put o.dst v) w):wpOpIn Fence.wide n P ops Q i K a w:=by unfold wpOpIn;simp[hi,b.1,Oper.wpIn,Oper.semAt_eq _ _ _ b.2.2.1,b.2.1 w d,Oper.uponIn];exact⟨λf c=>(by rw[b.2.2.2 w]at c;cases c),h⟩
theorem sc.put(c:sc C P ops o v a)(hs:∀cs b,o.op≠ .select cs b){d:Option Tmp}(u:Value)(h3:∀t,d=some t->t ∉ o.looksAt ops):sc C P ops o v (a.put d u):=
 ⟨by rw[wanted_put o a d u h3];exact c.1,λw e=>by rw[execOp_put o hs a d u h3];exact c.2.1 w e,c.2.2.1,λw=>by rw[about_put o w a d u h3];exact c.2.2.2 w⟩
variable{cu:Oper}
def amX{j:Nat}{oj:Oper}(l:ops[j]?=some oj)(p:cu.apart ops oj=true)(i:∀cs b,cu.op≠ .select cs b)(o:∀cs b,oj.op≠ .select cs b)(q:∀c a w,Q (.panic c) (a.put cu.dst v) w->Q (.panic c) a w)(e:sc C P ops cu v a)(h:wpOpIn Fence.wide n P ops Q j K (a.put cu.dst v) w):
 wpOpIn Fence.wide n P ops Q j (λa' w'=>sc C P ops cu v a'/\K (a'.put cu.dst v) w') a w:=by
 obtain⟨h1,s,h3⟩:=Oper.apart_spec p;have keep:∀(a:Act),sc C P ops cu v a->∀u,sc C P ops cu v (a.put oj.dst u):=λa e u=>e.put i u h3;have m:∀d,sc C P ops cu v {a with defers:=d::a.defers}:=λd=>⟨e.1,e.2.1,e.2.2.1,e.2.2.2⟩;unfold wpOpIn at *;simp only[l]at *;rw[wanted_put oj a cu.dst v h1,about_put oj w a cu.dst v h1]at h;split
 .rename_i k;simp[k]at h;unfold Oper.wpIn at *;rw[about_put oj w a cu.dst v h1]at h;refine⟨h.1,?_⟩;have h:=h.2;have g:Fence.wide.round=none:=rfl;rw[g,Oper.semAt_none,execOp_put oj o a cu.dst v h1]at h;rw[g,Oper.semAt_none];generalize(execOp a.eval oj).run P w=r at *;cases r with
  |ok x w'=>
   cases x<;>simp only[Oper.uponIn]at h⊢
   case value u=>grind[Act.put_comm]
   case skip=>grind[Act.put_comm]
   case defer d=>
    grind[Act.put_comm,Act.put_defers]
   case enter f args=>
    grind[CallsIn.mono,Act.put_comm]
   case row row args=>grind[Act.put_comm]
   grind[RoundIn.mono,Act.put_comm]
  |halt x w'=>
   cases x<;>simp only[Oper.uponIn]at h⊢
   grind
 grind[Act.put_comm]
def amY(hi:ops[i]?=some cu)(F:∀(j:Nat)(o:Oper) cs b,ops[j]?=some o->o.op≠ .select cs b)(p:∀c a w,Q (.panic c) (a.put cu.dst v) w->Q (.panic c) a w):
 ∀(fuel:Nat)(listed:Array Bool)(a:Act)(w:aO),
  (∀j oj,ops[j]?=some oj->j≠i->listed.getD j true=false->(∀e∈oj.after,Region.binds .any e=true->e.on≠i)->cu.apart ops oj=true)->
  i∈Region.ready .any ops listed->sc C P ops cu v a->C w->pu C n P ops Q fuel (listed.setIfInBounds i true) (a.put cu.dst v) w->pu C n P ops Q (fuel+1) listed a w:=by
 intro fuel;induction fuel with
 |zero=>
  intro listed a w _ m g f H;refine⟨AA,λj h=>?_⟩;by_cases d:j=i
  .subst d;exact g.op hi f ⟨f,H⟩
  .have:=ready_mono h d;rw[H.1]at this;grind
 |succ fuel q=>
  intro listed a w y m g f H;refine⟨AA,λj h=>?_⟩;by_cases d:j=i
  .subst d;exact g.op hi f ⟨f,H⟩
  .have h1:=H.2 j (ready_mono h d);obtain⟨t,oj,x,E⟩:=mem_ready.1 h;have A:∀e∈oj.after,Region.binds .any e=true->e.on≠i:=λe B D r=>by grind[mem_ready]
   have s:=amX x AA AA AA p g h1;have u:∀k ok,ops[k]?=some ok->k≠i->(listed.setIfInBounds j true).getD k true=false->(∀e∈ok.after,Region.binds .any e=true->e.on≠i)->cu.apart ops ok=true:=λk ok hk z J l=>by
    refine y k ok hk z ?_ l;by_cases I:j=k
    .grind
    simp_all
   refine wpOpIn_mono (λa' w' h3=>⟨h3.2.1,q (listed.setIfInBounds j true) a' w' u (ready_mono m (Ne.symm d)) h3.1 h3.2.1 ?_⟩) s;grind[Array.setIfInBounds_comm]
variable{fuel:Nat}
def mR{listed:Array Bool}(hi:ops[i]?=some cu)(hs:Region.noSelect ops=true)(e:Region.free .any ops listed i=true)(g:(Region.ready .any ops listed).contains i=true)(b:∀c a w,Q (.panic c) (a.put cu.dst v) w->Q (.panic c) a w)(f:C w)(d:sc C P ops cu v a)(h:pu C n P ops Q fuel (listed.setIfInBounds i true) (a.put cu.dst v) w):pu C n P ops Q (fuel+1) listed a w:=
 amY hi (Region.noSelect_spec hs) b fuel listed a w (Region.free_spec hi e) AA d f h
def h7{listed:Array Bool}(b:Region.ready .any ops listed=[i])(c:ops[i]?=some o)(h:∀K':Act->aO->Prop,(∀a w,C w->pu C n P ops Q fuel (listed.setIfInBounds i true) a w->K' a w)->if Region.wanted o (yielded ops a.tmps)=true then Oper.wpIn Fence.wide n P o a w K' Q else(∀f,o.about P w a.eval=some f->Fence.wide.fn f)/\K' (a.put o.dst undef) w):pu C n P ops Q (fuel+1) listed a w:=
 ⟨AA,by
  rw[b];intro j d;cases List.mem_singleton.1 d;exact wpOpIn_step c λK' hK=>h K' AA⟩
def BZ{listed:Array Bool}(b:Region.ready .any ops listed=[])(h:Q .normal a w):∀fuel,pu C n P ops Q fuel listed a w
 |0=>⟨b,h⟩
 | _+1=>⟨λ_=>h,AA⟩
open Shelf av bZ
abbrev en(w:aO)(b k:Nat)(cv a1 bC bX cC:Value):aO:=((((w.setCell ⟨b,k*5,none⟩ cv).setCell ⟨b,k*5+1,none⟩ a1).setCell ⟨b,k*5+2,none⟩ bC).setCell ⟨b,k*5+3,none⟩ bX).setCell ⟨b,k*5+4,none⟩ cC
variable{b:Nat}{cs:Array Value}{T:TypeId}
def Zn(h:ag w b cs T)(k:Nat)(a a1 e d c:Value):ag (en w b k a a1 e d c) b (q8 cs k a a1 e d c) T:=((((h.set _ _).set _ _).set _ _).set _ _).set _ _
theorem MB(w:aO)(b k:Nat)(c a1 f e d:Value){x:Nat}(a:x≠b):(en w b k c a1 f e d).heap[x]?=w.heap[x]?:=
 (Below.heap_setCell _ _ _ _ a).trans ((Below.heap_setCell _ _ _ _ a).trans ((Below.heap_setCell _ _ _ _ a).trans ((Below.heap_setCell _ _ _ _ a).trans (Below.heap_setCell _ _ _ _ a))))
def am0(w:aO)(b k:Nat)(a a1 e d c:Value):KeepsOthers w (en w b k a a1 e d c):=
 ((((KeepsOthers.setCell _ _ _).trans (KeepsOthers.setCell _ _ _)).trans (KeepsOthers.setCell _ _ _)).trans (KeepsOthers.setCell _ _ _)).trans (KeepsOthers.setCell _ _ _)
def am1(h:ag w b cs T){Y:TypeId->Prop}(i:¬Y T)(k:Nat)(a a1 g f d:Value):hH Y w (en w b k a a1 g f d):=
 ⟨Br,λx c e z j y=>by
  grind[ag,MB]⟩
def So(w:aO)(hn:n<=b)(k:Nat)(a a1 e d c:Value):Below n w (en w b k a a1 e d c):=
 (((((Below.refl n w).setCell (p:=⟨b,_,none⟩) hn _).setCell (p:=⟨b,_,none⟩) hn _).setCell (p:=⟨b,_,none⟩) hn _).setCell (p:=⟨b,_,none⟩) hn _).setCell (p:=⟨b,_,none⟩) hn _
def uj.congr{l:List (Int×Int)}{D:Nat->Nat->bD}{m a:Nat->Nat}{L:List eJ}(h:uj l D m L cs)(b:∀i,i<l.length->m i=a i):uj l D a L cs:=
 ⟨h.size,λi hi=>by rw[<-b i hi];exact h.xA i hi,h.BX⟩
def tb(t:Int×Int)(D:Nat->bD)(n:Nat):aA:=
 ⟨t.1,t.2,if t.1=3 then []else(List.range n).map λr=>(D r).num,if t.1=3 then(List.range n).map λr=>(D r).text else [],(List.range n).map λr=>(D r).eG⟩
def se(l:List (Int×Int))(D:Nat->Nat->bD)(n:Nat):List aA:=(List.range l.length).map λi=>tb (l[i]?.getD (0,0)) (D · i) n
variable{B:Nat}{W:aO}{e:TypeId}
def xB{al:Type}{R:aO->(Nat->Option Value)->al->Prop}{xs:List Value}{a:List al}(h:W.ownsRow B e 1 v xs.length xs)(b:a.length=xs.length)(n:∀i(h:i<a.length),∀rd:Nat->Option Value,rd 0=some (xs[i]'(b▸h))->R W rd a[i]):a8 W 1 R v a:=by
 obtain⟨-,⟨c,hn⟩|⟨g,cap,be,c,-,l,k,o,-,f⟩⟩:=h
 .grind[a8.nil]
 .refine⟨_,_,by rw[c,b],Hx,λi hi=>⟨_,_,rfl,n i hi _ ?_⟩⟩;have j:i<xs.length:=b▸hi;have m:xs[i]?=some xs[i]:=List.getElem?_eq_getElem j;have d:(be.toList.take (xs.length*1))[i]?=xs[i]?:=by rw[f]
  rw[List.getElem?_take_of_lt As,Array.getElem?_toList]at d;have b0:ag W g be e:=l;show W.cell? ⟨g,0+i*1+0,none⟩=_;rw[b0.rules.1,show 0+i*1+0=i by omega,d,m]
def oJ(w:aO)(v:Value)(e:TypeId):Prop:=∀b,v.ownBlock=some b->∃c z,w.heap[b]?=some (.cells c e z)
def qu{xs:List Value}(h:W.ownsRow B e 1 v n xs):oJ W v e:=by
 intro b a;obtain⟨-,⟨c,-⟩|⟨g,cap,be,c,-,d,-⟩⟩:=h
 .rw[c]at a;cases a
 .rw[c]at a;cases a;grind
def am2(w:aO)(rd:Nat->Option Value)(c:aA):Prop:=
 ∃bg vs aY,rd 0=some (.int .i64 c.kind)/\rd 1=some (.int .i64 c.ck)/\rd 2=some bg/\rd 3=some vs/\rd 4=some aY/\sN w bg vs aY c/\oJ w bg 2/\oJ w vs 9/\oJ w aY 4
def jM(w:aO)(v:Value)(t:List aA):Prop:=a8 w 5 am2 v t/\oJ w v 43
def jM.bd{t:List aA}(h:jM w v t):m8 w v t:=by obtain⟨⟨g,cap,a,c,j⟩,-⟩:=h;refine⟨g,cap,a,c,λi hi=>?_⟩;obtain⟨b,off,d,bg,vs,k,h0,h1,f,h3,e,l,-⟩:=j i hi;exact⟨b,off,d,bg,vs,k,h0,h1,f,h3,e,l⟩
def pw(e:TypeId):Prop:=e=43\/e=2\/e=9\/e=4
variable{w':aO}
theorem Zo(hk:hH pw w w'){c:Nat}{off:Nat}(ht:oJ w (.slice (some ⟨b,off,none⟩) l c) e)(a:pw e)(o:Nat):w'.cell? ⟨b,o,none⟩=w.cell? ⟨b,o,none⟩:=by obtain⟨cs,z,h⟩:=ht b rfl;have:=hk.cells _ _ _ _ h a;grind[World.cell?]
def Sp{al:Type}{R:aO->(Nat->Option Value)->al->Prop}(f:∀w w' rd a x,(∀j v,rd j=some v->a j=some v)->R w rd x->R w' a x)(hk:hH pw w w')(ht:oJ w v e)(d:pw e){xs:List al}(h:a8 w 1 R v xs):a8 w' 1 R v xs:=by obtain⟨c,cap,rfl,b,g⟩:=h;refine⟨c,cap,rfl,b,λi hi=>?_⟩;grind[Zo]
def jM.kept{t:List aA}(hk:hH pw w w')(h:jM w v t):jM w' v t:=by
 obtain⟨⟨r,cap,rfl,m,s⟩,ht⟩:=h;have hd:∀{v e},pw e->oJ w v e->oJ w' v e:=λk h b n=>by obtain⟨c,z,h1⟩:=h b n;exact⟨c,z,hk.cells _ _ _ _ h1 k⟩
 refine⟨⟨r,cap,rfl,m,λi hi=>?_⟩,hd Kg ht⟩;obtain⟨b,off,rfl,bg,vs,u,h0,h1,q,h3,p,d,j,g,f⟩:=s i hi;have key:∀o x,w.cell? ⟨b,o,none⟩=some x->w'.cell? ⟨b,o,none⟩=some x:=λo x l=>(Zo hk ht Kg o).trans l;exact⟨b,off,rfl,bg,vs,u,key _ _ h0,key _ _ h1,key _ _ q,key _ _ h3,key _ _ p,⟨Sp (R:=tD) Mv hk j (.inr Kg) d.fg,Sp (R:=A2) (λ_ _ _ _ _ a h=>⟨a _ _ h.1,h.2⟩) hk g (.inr AA) d.dl,Sp (R:=ze) Mv hk f (.inr AA) d.cp⟩,hd (.inr Kg) j,hd (.inr AA) g,hd (.inr AA) f⟩
def am3{o:Nat}{l:List (Int×Int)}{D:Nat->Nat->bD}{V:aO}{L:List eJ}(a:eH B V L)(p:uj l D (λ_=>n) L cs)(c:ag V o cs 43)(w:l.length<=1000)(ht:∀r i,r<n->i<l.length->(D r i).text.size<=1000000):
 jM V (.slice (some ⟨o,0,none⟩) l.length l.length) (se l D n):=by
 have k:(se l D n).length=l.length:=by simp[se]
 refine⟨⟨_,_,by rw[k],As,λi hi=>⟨_,_,rfl,?_⟩⟩,λb h=>by cases h;exact⟨_,_,c⟩⟩;rw[k]at hi;have q:(se l D n)[i]'As=tb l[i] (D · i) n:=by simp[se,hi]
 rw[q];obtain⟨bg,vs,e,s,a1,v,u,t,m,g,f⟩:=p.xA i hi;refine⟨bg,vs,e,?_,?_,?_,?_,?_,⟨?_,?_,?_⟩,qu (show V.ownsRow _ 2 1 bg (oH l[i].1 (D · i) n).length _ from a.at m),qu (show V.ownsRow _ 9 1 vs (oI l[i].1 (D · i) n).length _ from a.at g),qu (show V.ownsRow _ 4 1 e (r_ (D · i) n).length _ from a.at f)⟩
 .show V.cell? _=_;rw[c.rules.1,show 0+i*5+0=i*5 by omega,s];rfl
 .show V.cell? _=_;rw[c.rules.1,show 0+i*5+1=i*5+1 by omega,a1];rfl
 .show V.cell? _=_;rw[c.rules.1,show 0+i*5+2=i*5+2 by omega,v]
 .show V.cell? _=_;rw[c.rules.1,show 0+i*5+3=i*5+3 by omega,u]
 .show V.cell? _=_;rw[c.rules.1,show 0+i*5+4=i*5+4 by omega,t]
 .refine xB (show V.ownsRow _ 2 1 bg (oH l[i].1 (D · i) n).length _ from a.at m) ?_ ?_
  .grind[tb,oH]
  .intro j d rd h0;by_cases hk:l[i].1=3
   .grind[tb]
   .simp[tb,oH,hk]at h0⊢;exact h0
 .refine xB (show V.ownsRow _ 9 1 vs (oI l[i].1 (D · i) n).length _ from a.at g) ?_ ?_
  .grind[tb,oI]
  .intro j d rd h0;by_cases hk:l[i].1=3
   .simp[tb,hk]at d;simp[tb,oI,hk]at h0⊢;exact⟨h0,AA⟩
   grind[tb]
 .refine xB (show V.ownsRow _ 4 1 e (r_ (D · i) n).length _ from a.at f) ?_ ?_
  .simp[tb,r_]
  .intro j d rd h0;simp[tb,r_]at h0⊢;exact h0
end bN
namespace bZ
open RowKit av bN
def Z0:(ae prog false).funcs[(153:Nat)]?=some f153:=a6 (upd:=false) func153 AV
@[simp] theorem aDS (args:Array Value) (w:aO):Sem.run (ae prog false) (callFunc 153 args) w=.ok (.enter 153 args) w:=cB Z0 AV args w
theorem Z1:(ae prog false).funcs[(154:Nat)]?=some f154:=a6 (upd:=false) func154 AV
@[simp] theorem aDT (args:Array Value) (w:aO):Sem.run (ae prog false) (callFunc 154 args) w=.ok (.enter 154 args) w:=cB Z1 AV args w
theorem SU:(ae prog false).funcs[(139:Nat)]?=some f139:=a6 (upd:=false) func139 AV
@[simp] theorem aDU (args:Array Value) (w:aO):Sem.run (ae prog false) (callFunc 139 args) w=.ok (.enter 139 args) w:=cB SU AV args w
theorem SV:(ae prog false).funcs[(140:Nat)]?=some f140:=a6 (upd:=false) func140 AV
@[simp] theorem aDV (args:Array Value) (w:aO):Sem.run (ae prog false) (callFunc 140 args) w=.ok (.enter 140 args) w:=cB SV AV args w
theorem Z2:(ae prog false).funcs[(138:Nat)]?=some f138:=a6 (upd:=false) func138 AV
@[simp] theorem aDW (args:Array Value) (w:aO):Sem.run (ae prog false) (callFunc 138 args) w=.ok (.enter 138 args) w:=cB Z2 AV args w
theorem Z3:(ae prog false).funcs[(123:Nat)]?=some f123:=a6 (upd:=false) func123 AV
@[simp] theorem aDX (args:Array Value) (w:aO):Sem.run (ae prog false) (callFunc 123 args) w=.ok (.enter 123 args) w:=cB Z3 AV args w
def FU(a b:Int):Int:=if a<b then -1 else if b<a then 1 else 0
def Cf(a b:ByteArray):Int:=if Op.bytesLess a.toList b.toList then -1 else if !Op.bytesLess a.toList b.toList&& !(a.toList==b.toList)then 1 else 0
def Z4(a:Int)(w:aO):Calls (ae prog false) 153 #[.int .i64 a] w λe w'=>e=.returned (.bool false)/\w'=w:=by
 go_enter Z0,ntmps153
 go_wp2
 go_ret
 simp
def Z5(a:ByteArray)(w:aO):Calls (ae prog false) 154 #[.string a] w λe w'=>e=.returned (.bool false)/\w'=w:=by
 go_enter Z1,ntmps154
 go_wp2
 go_ret
 simp
def anW(a b:Int)(w:aO):Calls (ae prog false) 139 #[.int .i64 a,.int .i64 b] w λe w'=>e=.returned (.int .i64 (FU a b))/\w'=w:=by
 unfold FU;by_cases h1:a<b
 .simp only[h1,if_true];go_enter SU,ntmps139
  go_wp2_with (go_at_call 153;refine(Z4 _ _).mono ?_;rintro e w' ⟨rfl,rfl⟩)
  go_ret
  simp
 .by_cases c:b<a;focus
   simp only[h1,c,if_true,if_false]
  rotate_left
  focus
   simp only[h1,c,if_false]
  rotate_left
  all_goals
   go_enter SU,ntmps139
   go_wp2_with (go_at_call 153;refine(Z4 _ _).mono ?_;rintro e w' ⟨rfl,rfl⟩)
   go_ret
   simp
def anX(a b:ByteArray)(w:aO):Calls (ae prog false) 140 #[.string a,.string b] w λe w'=>e=.returned (.int .i64 (Cf a b))/\w'=w:=by
 unfold Cf;by_cases h1:Op.bytesLess a.toList b.toList=true
 .simp only[h1,if_true];go_enter SV,ntmps140
  go_wp2_with (go_at_call 154;refine(Z5 _ _).mono ?_;rintro e w' ⟨rfl,rfl⟩)
  go_ret
  simp
 .have h1:Op.bytesLess a.toList b.toList=false:=by grind
  by_cases c:(a.toList==b.toList)=true;focus
   simp only[h1,c,Bool.not_true,Bool.and_false,Bool.false_eq_true,if_false]
  rotate_left
  focus
   have c:(a.toList==b.toList)=false:=AA;simp only[h1,c,Bool.not_false,Bool.and_true,Bool.false_eq_true,if_false,if_true]
  rotate_left
  all_goals
   go_enter SV,ntmps140
   go_wp2_with (go_at_call 154;refine(Z5 _ _).mono ?_;rintro e w' ⟨rfl,rfl⟩)
   go_ret
   simp
def IU(x y:Int):Int:=if x≠0 then x else y
def anY(b:Nat)(x y:Int)(w:aO)(h0:w.cell? ⟨b,0,none⟩=some (.int .i64 x))(h1:w.cell? ⟨b,1,none⟩=some (.int .i64 y)):Calls (ae prog false) 138 #[.slice (some ⟨b,0,none⟩) 2 2] w λe w'=>e=.returned (.int .i64 (IU x y))/\w'=w:=by
 unfold IU;have d:=fS h0;go_enter Z2,ntmps138
 go_wp2
 go_loopw [8] (λi W=>∃k:Nat,k<=2/\i=.int .i64 (k:Int)/\W=w/\(1<=k->x=0)/\(k=2->y=0)) (λi _=>2-(intOf i).toNat)
 case atStart=>grind
 case round=>
  obtain⟨k,hk,rfl,rfl,a,c⟩:=hrel;obtain rfl|rfl|rfl:k=0\/k=1\/k=2:=As
  .by_cases a:x=0
   .subst a;go_wp2
    go_roundw
    case rel=>grind
    case measure=>simp[intOf]
   .go_wp2
    go_ret
    simp
  .obtain rfl:=a As;by_cases c:y=0
   .subst c;go_wp2
    go_roundw
    case rel=>grind
    case measure=>simp[intOf]
   .go_wp2
    go_ret
    simp
  .obtain rfl:=a As;obtain rfl:=c rfl;go_wp2
   go_ret
   simp
def Cg(l r:bD):Int:=IU (FU l.num r.num) (Cf l.text r.text)
def anZ(l r:bD)(w:aO):Calls (ae prog false) 123 #[eQ l,eQ r] w λe w'=>e=.returned (.int .i64 (Cg l r))/\Below w.heap.size w w':=by
 obtain⟨g,a,ls,lt⟩:=l;obtain⟨f,b,rs,rt⟩:=r;unfold Cg;simp only;go_enter Z3,ntmps123
 go_upto_region 1 with fail
 have o:=(ag.new w #[.bool g,.int .i64 a,.int .i64 ls,.string lt] 98).alloc (.cells #[.bool f,.int .i64 b,.int .i64 rs,.string rt] 98);have dA:=ag.new (w.alloc (.cells #[.bool g,.int .i64 a,.int .i64 ls,.string lt] 98)) #[.bool f,.int .i64 b,.int .i64 rs,.string rt] 98;have p:Hid (Below w.heap.size w ((w.alloc (.cells #[.bool g,.int .i64 a,.int .i64 ls,.string lt] 98)).alloc (.cells #[.bool f,.int .i64 b,.int .i64 rs,.string rt] 98)).drew):=(((Below.refl _ w).alloc J1 _).alloc A_ _).drew;have q:Hid (((w.alloc (.cells #[.bool g,.int .i64 a,.int .i64 ls,.string lt] 98)).alloc (.cells #[.bool f,.int .i64 b,.int .i64 rs,.string rt] 98)).heap.size=w.heap.size+1+1):=by unfold Hid;simp
 simp only[World.size_alloc]at dA;have HC:Hid (ag ((w.alloc (.cells #[.bool g,.int .i64 a,.int .i64 ls,.string lt] 98)).alloc (.cells #[.bool f,.int .i64 b,.int .i64 rs,.string rt] 98)).drew w.heap.size #[.bool g,.int .i64 a,.int .i64 ls,.string lt] 98/\ag ((w.alloc (.cells #[.bool g,.int .i64 a,.int .i64 ls,.string lt] 98)).alloc (.cells #[.bool f,.int .i64 b,.int .i64 rs,.string rt] 98)).drew (w.heap.size+1) #[.bool f,.int .i64 b,.int .i64 rs,.string rt] 98):=⟨o,dA⟩;clear o dA;generalize(w.alloc (.cells #[.bool g,.int .i64 a,.int .i64 ls,.string lt] 98)).alloc (.cells #[.bool f,.int .i64 b,.int .i64 rs,.string rt] 98)=s at *;refine wpIn_wide.1 (wpIn_region_any (n:=0) BA (BY (C:=λW=>ag W w.heap.size #[.bool g,.int .i64 a,.int .i64 ls,.string lt] 98/\ag W (w.heap.size+1) #[.bool f,.int .i64 b,.int .i64 rs,.string rt] 98) _ _ _ _ ?_));refine mR (i:=0) (v:=.pointer (some ⟨w.heap.size,1,none⟩)) rfl BA BA BA Kj HC.out ⟨Bo,λW d=>Be,(λc h=>nomatch h),λ_=>rfl⟩ ?_;refine mR (i:=2) (v:=.pointer (some ⟨w.heap.size+1,1,none⟩)) rfl BA BA BA Kj HC.out ⟨Bo,λW d=>Be,(λc h=>nomatch h),λ_=>rfl⟩ ?_;refine mR (i:=5) (v:=.pointer (some ⟨w.heap.size,3,none⟩)) rfl BA BA BA Kj HC.out ⟨Bo,λW d=>Be,(λc h=>nomatch h),λ_=>rfl⟩ ?_;refine mR (i:=7) (v:=.pointer (some ⟨w.heap.size+1,3,none⟩)) rfl BA BA BA Kj HC.out ⟨Bo,λW d=>Be,(λc h=>nomatch h),λ_=>rfl⟩ ?_;refine mR (i:=1) (v:=.int .i64 a) rfl BA BA BA Kj HC.out ⟨Bo,λW d=>by obtain⟨m,k,j⟩:=d.1.all;go_simp,(λc h=>nomatch h),λ_=>rfl⟩ ?_;refine mR (i:=3) (v:=.int .i64 b) rfl BA BA BA Kj HC.out ⟨Bo,λW d=>by obtain⟨m,k,j⟩:=d.2.all;go_simp,(λc h=>nomatch h),λ_=>rfl⟩ ?_;refine mR (i:=6) (v:=.string lt) rfl BA BA BA Kj HC.out ⟨Bo,λW d=>by obtain⟨m,k,j⟩:=d.1.all;go_simp,(λc h=>nomatch h),λ_=>rfl⟩ ?_;refine mR (i:=8) (v:=.string rt) rfl BA BA BA Kj HC.out ⟨Bo,λW d=>by obtain⟨m,k,j⟩:=d.2.all;go_simp,(λc h=>nomatch h),λ_=>rfl⟩ ?_;refine h7 (i:=4) BA rfl λK hK=>?_;go_simp
 refine⟨PA,rfl,(callsIn_wide.2 (anW _ _ _)).mono ?_⟩;rintro e w' ⟨rfl,rfl⟩;refine hK _ _ HC.out ?_;clear hK K;refine h7 (i:=9) BA rfl λK hK=>?_;go_simp
 refine⟨PA,rfl,(callsIn_wide.2 (anX _ _ _)).mono ?_⟩;rintro e w' ⟨rfl,rfl⟩;refine hK _ _ HC.out ?_;clear hK K;refine h7 (i:=10) BA rfl λK hK=>?_;go_simp
 refine hK _ _ ⟨HC.out.1.alloc _,HC.out.2.alloc _⟩ ?_;clear hK K;refine h7 (i:=11) BA rfl λK hK=>?_;go_simp
 refine⟨PA,rfl,(callsIn_wide.2 (anY _ (FU a b) (Cf lt rt) _ Be Be)).mono ?_⟩;rintro e w' ⟨rfl,rfl⟩;refine hK _ _ ⟨HC.out.1.alloc _,HC.out.2.alloc _⟩ ?_;clear hK K;refine h7 (i:=12) BA rfl λK hK=>?_;go_simp
 refine hK _ _ ⟨HC.out.1.alloc _,HC.out.2.alloc _⟩ ?_;clear hK K;refine BZ BA ?_ _;go_wp2
 go_ret
 exact⟨rfl,p.out.alloc p.out.size _⟩
def SW:(ae prog false).funcs[(172:Nat)]?=some f172:=a6 (upd:=false) func172 AV
@[simp] theorem aDZ (args:Array Value) (w:aO):Sem.run (ae prog false) (callFunc 172 args) w=.ok (.enter 172 args) w:=cB SW AV args w
theorem SX:(ae prog false).funcs[(177:Nat)]?=some f177:=a6 (upd:=false) func177 AV
@[simp] theorem aD0 (args:Array Value) (w:aO):Sem.run (ae prog false) (callFunc 177 args) w=.ok (.enter 177 args) w:=cB SX AV args w
theorem SY:(ae prog false).funcs[(184:Nat)]?=some f184:=a6 (upd:=false) func184 AV
@[simp] theorem aD1 (args:Array Value) (w:aO):Sem.run (ae prog false) (callFunc 184 args) w=.ok (.enter 184 args) w:=cB SY AV args w
theorem FV:(ae prog false).funcs[(187:Nat)]?=some f187:=a6 (upd:=false) func187 AV
@[simp] theorem aD2 (args:Array Value) (w:aO):Sem.run (ae prog false) (callFunc 187 args) w=.ok (.enter 187 args) w:=cB FV AV args w
def g4(b:Bool):bD:=⟨false,bif b then 1 else 0,0,f9⟩
def wh(d:bD):Bool:= !d.eG&&d.num==0
def fq(d:bD):Bool:= !d.eG&&d.num==1
def IV(l r:bD):bD:=if wh l||wh r then g4 false else if l.eG||r.eG then fL else g4 true
def wi(d:bD){b:Bool}(a:wh d=b)(w:aO):Calls (ae prog false) 172 #[eQ d] w λe w'=>e=.returned (.bool b)/\w'=w.alloc (.cells #[.bool d.eG,.int .i64 d.num,.int .i64 d.ck,.string d.text] 98):=by
 subst a;obtain⟨bF,c,ds,f⟩:=d;cases bF with
 |true=>
  go_enter SW,ntmps172
  go_wp2
  go_ret
  simp[wh]
 |false=>
  go_enter SW,ntmps172
  go_wp2
  go_ret
  simp[wh]
def Z6(d:bD){b:Bool}(a:fq d=b)(w:aO):Calls (ae prog false) 177 #[eQ d] w λe w'=>e=.returned (.bool b)/\w'=w.alloc (.cells #[.bool d.eG,.int .i64 d.num,.int .i64 d.ck,.string d.text] 98):=by
 subst a;obtain⟨bF,c,ds,f⟩:=d;cases bF with
 |true=>
  go_enter SX,ntmps177
  go_wp2
  go_ret
  simp[fq]
 |false=>
  go_enter SX,ntmps177
  go_wp2
  go_ret
  simp[fq]
def Ch(b:Bool)(w:aO):Calls (ae prog false) 184 #[.bool b] w λe w'=>e=.returned (eQ (g4 b))/\Below w.heap.size w w':=by
 cases b with
 |true=>
  go_enter SY,ntmps184
  go_wp2
  exact bodyPost_ret (v:=eQ (g4 true)) (by simp[results,results184,go_sem,g4,f9]) rfl ⟨rfl,Jh⟩
 |false=>
  go_enter SY,ntmps184
  go_wp2
  exact bodyPost_ret (v:=eQ (g4 false)) (by simp[results,results184,go_sem,g4,f9]) rfl ⟨rfl,Jh⟩
def ti{w w':aO}{b:Nat}(h:ag w' b #[.bool false,.int .i64 0,.int .i64 0,.string ⟨#[]⟩] 98)(a:w.heap.size<=b)(c:Below w.heap.size w w')(d:bD):
 ag ((((w'.setCell ⟨b,0,none⟩ (.bool d.eG)).setCell ⟨b,1,none⟩ (.int .i64 d.num)).setCell ⟨b,2,none⟩ (.int .i64 d.ck)).setCell ⟨b,3,none⟩ (.string d.text)) b #[.bool d.eG,.int .i64 d.num,.int .i64 d.ck,.string d.text] 98/\Below w.heap.size w ((((w'.setCell ⟨b,0,none⟩ (.bool d.eG)).setCell ⟨b,1,none⟩ (.int .i64 d.num)).setCell ⟨b,2,none⟩ (.int .i64 d.ck)).setCell ⟨b,3,none⟩ (.string d.text)):=
 ⟨by simpa using(((h.set 0 (.bool d.eG)).set 1 (.int .i64 d.num)).set 2 (.int .i64 d.ck)).set 3 (.string d.text),(((c.setCell a _).setCell a _).setCell a _).setCell a _⟩
def MR(w:aO):Calls (ae prog false) 189 #[] w λe w'=>e=.returned (eQ fL)/\Below w.heap.size w w':=(tL w).mono λ_ _ h=>⟨h.1,h.2▸(Below.refl _ _).alloc (Nat.le_refl _) _⟩
def an0(l r:bD)(w:aO):Calls (ae prog false) 187 #[eQ l,eQ r] w λe w'=>e=.returned (eQ (IV l r))/\Below w.heap.size w w':=by
 unfold IV;have c:∀(k j o:Obj),Below w.heap.size w (((w.alloc k).alloc j).alloc o):=λk j o=>(((Below.refl _ w).alloc J1 _).alloc A_ _).alloc Bg _;have d:∀(k j:Obj),ag (((w.alloc k).alloc j).alloc (.cells #[.bool false,.int .i64 0,.int .i64 0,.string ⟨#[]⟩] 98)) (w.heap.size+1+1) #[.bool false,.int .i64 0,.int .i64 0,.string ⟨#[]⟩] 98:=λk j=>by simpa using ag.new ((w.alloc k).alloc j) #[.bool false,.int .i64 0,.int .i64 0,.string ⟨#[]⟩] 98
 obtain⟨q,s,ls,lt⟩:=l;obtain⟨p,t,rs,rt⟩:=r;cases m:wh ⟨q,s,ls,lt⟩with
 |true=>
  simp only[Bool.true_or,if_true];go_enter FV,ntmps187
  go_wp2_with (go_at_call 172;refine(wi _ m _).mono ?_;rintro e w' ⟨rfl,rfl⟩)
  refine(Ch false _).mono ?_;rintro e w1 ⟨rfl,a⟩;have b:Hid (ag w1 (w.heap.size+1+1) #[.bool false,.int .i64 0,.int .i64 0,.string ⟨#[]⟩] 98):=((d _ _).alloc _).call a;have i:Hid (Below w.heap.size w w1):=Below.step a ((c _ _ _).alloc Bg _) Bg;obtain⟨dm,f3,iw⟩:=b.out.all;clear a c d;go_wp2
  obtain⟨g,h⟩:=ti b.out As i.out (g4 false);have f:=g.rules.1;exact bodyPost_ret (v:=eQ (g4 false)) Dw rfl ⟨rfl,h⟩
 |false=>
  cases n:wh ⟨p,t,rs,rt⟩with
  |true=>
   simp only[Bool.or_true,if_true];go_enter FV,ntmps187
   go_wp2_with (go_at_call 172;first|(refine(wi _ m _).mono ?_;rintro e w' ⟨rfl,rfl⟩)|(refine(wi _ n _).mono ?_;rintro e w' ⟨rfl,rfl⟩))
   refine(Ch false _).mono ?_;rintro e w1 ⟨rfl,a⟩;have b:Hid (ag w1 (w.heap.size+1+1) #[.bool false,.int .i64 0,.int .i64 0,.string ⟨#[]⟩] 98):=(((d _ _).alloc _).alloc _).call a;have i:Hid (Below w.heap.size w w1):=Below.step a (((c _ _ _).alloc Bg _).alloc Bg _) Bg;obtain⟨dm,f3,iw⟩:=b.out.all;clear a c d;go_wp2
   obtain⟨g,h⟩:=ti b.out As i.out (g4 false);have f:=g.rules.1;exact bodyPost_ret (v:=eQ (g4 false)) Dw rfl ⟨rfl,h⟩
  |false=>
   simp only[Bool.or_false,Bool.false_eq_true,if_false];cases q with
   |true=>
    simp only[Bool.true_or,if_true];go_enter FV,ntmps187
    go_wp2_with (go_at_call 172;first|(refine(wi _ m _).mono ?_;rintro e w' ⟨rfl,rfl⟩)|(refine(wi _ n _).mono ?_;rintro e w' ⟨rfl,rfl⟩))
    refine(MR _).mono ?_;rintro e w1 ⟨rfl,a⟩;have b:Hid (ag w1 (w.heap.size+1+1) #[.bool false,.int .i64 0,.int .i64 0,.string ⟨#[]⟩] 98):=(((d _ _).alloc _).alloc _).call a;have i:Hid (Below w.heap.size w w1):=Below.step a (((c _ _ _).alloc Bg _).alloc Bg _) Bg;obtain⟨dm,f3,iw⟩:=b.out.all;clear a c d;go_wp2
    obtain⟨g,h⟩:=ti b.out As i.out (fL);have f:=g.rules.1;exact bodyPost_ret (v:=eQ (fL)) Dw rfl ⟨rfl,h⟩
   |false=>
    cases p with
    |true=>
     simp only[Bool.or_true,if_true];go_enter FV,ntmps187
     go_wp2_with (go_at_call 172;first|(refine(wi _ m _).mono ?_;rintro e w' ⟨rfl,rfl⟩)|(refine(wi _ n _).mono ?_;rintro e w' ⟨rfl,rfl⟩))
     refine(MR _).mono ?_;rintro e w1 ⟨rfl,a⟩;have b:Hid (ag w1 (w.heap.size+1+1) #[.bool false,.int .i64 0,.int .i64 0,.string ⟨#[]⟩] 98):=(((d _ _).alloc _).alloc _).call a;have i:Hid (Below w.heap.size w w1):=Below.step a (((c _ _ _).alloc Bg _).alloc Bg _) Bg;obtain⟨dm,f3,iw⟩:=b.out.all;clear a c d;go_wp2
     obtain⟨g,h⟩:=ti b.out As i.out (fL);have f:=g.rules.1;exact bodyPost_ret (v:=eQ (fL)) Dw rfl ⟨rfl,h⟩
    |false=>
     simp only[Bool.or_false,Bool.false_eq_true,if_false];go_enter FV,ntmps187
     go_wp2_with (go_at_call 172;first|(refine(wi _ m _).mono ?_;rintro e w' ⟨rfl,rfl⟩)|(refine(wi _ n _).mono ?_;rintro e w' ⟨rfl,rfl⟩))
     refine(Ch true _).mono ?_;rintro e w1 ⟨rfl,a⟩;have b:Hid (ag w1 (w.heap.size+1+1) #[.bool false,.int .i64 0,.int .i64 0,.string ⟨#[]⟩] 98):=(((d _ _).alloc _).alloc _).call a;have i:Hid (Below w.heap.size w w1):=Below.step a (((c _ _ _).alloc Bg _).alloc Bg _) Bg;obtain⟨dm,f3,iw⟩:=b.out.all;clear a c d;go_wp2
     obtain⟨g,h⟩:=ti b.out As i.out (g4 true);have f:=g.rules.1;exact bodyPost_ret (v:=eQ (g4 true)) Dw rfl ⟨rfl,h⟩
def MS:(ae prog false).funcs[(182:Nat)]?=some f182:=a6 (upd:=false) func182 AV
@[simp] theorem aD4 (args:Array Value) (w:aO):Sem.run (ae prog false) (callFunc 182 args) w=.ok (.enter 182 args) w:=cB MS AV args w
theorem FW:(ae prog false).funcs[(183:Nat)]?=some f183:=a6 (upd:=false) func183 AV
@[simp] theorem aD5 (args:Array Value) (w:aO):Sem.run (ae prog false) (callFunc 183 args) w=.ok (.enter 183 args) w:=cB FW AV args w
abbrev qW(t:bI):Value:=.agg #[.int .i64 t.op,.int .i64 t.a,.int .i64 t.v,.string t.s]
def uw(op:Int)(d:bD):bD:=if op=15 then g4 d.eG else if d.eG then d else g4 (wh d)
def tj(op:Int)(l r:bD):bD:=if op=12 then IV l r else if l.eG||r.eG then fL else if op=9 then g4 (Cg l r==0)else g4 (decide (Cg l r<0))
def an1(m:Value)(t:bI)(d:bD)(w:aO)(q:t.op=14\/t.op=15):
 Calls (ae prog false) 182 #[m,qW t,eQ d] w λe w'=>e=.returned (eQ (uw t.op d))/\Below w.heap.size w w':=by
 obtain⟨bF,r,ds,s⟩:=d;obtain⟨op,a,x,ts⟩:=t;simp only at q;have g:∀(f c p:Obj),Below w.heap.size w (((w.alloc f).alloc c).alloc p):=λf c p=>(((Below.refl _ w).alloc J1 _).alloc A_ _).alloc Bg _;have i:∀(f c:Obj),ag (((w.alloc f).alloc c).alloc (.cells #[.bool false,.int .i64 0,.int .i64 0,.string ⟨#[]⟩] 98)) (w.heap.size+1+1) #[.bool false,.int .i64 0,.int .i64 0,.string ⟨#[]⟩] 98:=λf c=>by simpa using ag.new ((w.alloc f).alloc c) #[.bool false,.int .i64 0,.int .i64 0,.string ⟨#[]⟩] 98
 rcases q with rfl|rfl
 .cases bF with
  |true=>
   simp only[uw,Int.reduceEq,if_false,if_true];go_enter MS,ntmps182
   go_wp2
   exact bodyPost_ret (v:=eQ ⟨true,r,ds,s⟩) (by simp[results,results182,go_sem]) rfl ⟨rfl,g _ _ _⟩
  |false=>
   simp only[uw,Int.reduceEq,Bool.false_eq_true,if_false];generalize u:wh ⟨false,r,ds,s⟩=j;go_enter MS,ntmps182
   go_wp2_with (go_at_call 172;refine(wi _ u _).mono ?_;rintro e w' ⟨rfl,rfl⟩)
   refine(Ch j _).mono ?_;rintro e w1 ⟨rfl,b⟩;have h:Hid (ag w1 (w.heap.size+1+1) #[.bool false,.int .i64 0,.int .i64 0,.string ⟨#[]⟩] 98):=((i _ _).alloc _).call b;have o:Hid (Below w.heap.size w w1):=Below.step b ((g _ _ _).alloc Bg _) Bg;obtain⟨dm,f3,iw⟩:=h.out.all;clear b g i;go_wp2
   obtain⟨l,n⟩:=ti h.out As o.out (g4 j);have k:=l.rules.1;exact bodyPost_ret (v:=eQ (g4 j)) (by simp[results,results182,go_sem,k]) rfl ⟨rfl,n⟩
 .simp only[uw,if_true];go_enter MS,ntmps182
  go_wp2
  refine(Ch bF _).mono ?_;rintro e w1 ⟨rfl,b⟩;have h:Hid (ag w1 (w.heap.size+1+1) #[.bool false,.int .i64 0,.int .i64 0,.string ⟨#[]⟩] 98):=(i _ _).call b;have o:Hid (Below w.heap.size w w1):=Below.step b (g _ _ _) Bg;obtain⟨dm,f3,iw⟩:=h.out.all;clear b g i;go_wp2
  obtain⟨l,n⟩:=ti h.out As o.out (g4 bF);have k:=l.rules.1;exact bodyPost_ret (v:=eQ (g4 bF)) (by simp[results,results182,go_sem,k]) rfl ⟨rfl,n⟩
def an2(m:Value)(op:Int)(l r:bD)(w:aO)(E:op=9\/op=10\/op=12):
 Calls (ae prog false) 183 #[m,.int .i64 op,eQ l,eQ r] w λe w'=>e=.returned (eQ (tj op l r))/\Below w.heap.size w w':=by
 have c:∀(j n C:Obj),Below w.heap.size w (((w.alloc j).alloc n).alloc C):=λj n C=>(((Below.refl _ w).alloc J1 _).alloc A_ _).alloc Bg _;have d:∀(j n:Obj),ag (((w.alloc j).alloc n).alloc (.cells #[.bool false,.int .i64 0,.int .i64 0,.string ⟨#[]⟩] 98)) (w.heap.size+1+1) #[.bool false,.int .i64 0,.int .i64 0,.string ⟨#[]⟩] 98:=λj n=>by simpa using ag.new ((w.alloc j).alloc n) #[.bool false,.int .i64 0,.int .i64 0,.string ⟨#[]⟩] 98
 obtain⟨z,s,ls,lt⟩:=l;obtain⟨y,t,rs,rt⟩:=r;by_cases B:op=12
 .subst B;simp only[tj,if_true];generalize q:IV ⟨z,s,ls,lt⟩ ⟨y,t,rs,rt⟩=D;have A:=λW=>q▸an0 ⟨z,s,ls,lt⟩ ⟨y,t,rs,rt⟩ W;clear q;go_enter FW,ntmps183
  go_wp2
  refine(A _).mono ?_;rintro e w1 ⟨rfl,a⟩;have b:Hid (ag w1 (w.heap.size+1+1) #[.bool false,.int .i64 0,.int .i64 0,.string ⟨#[]⟩] 98):=(d _ _).call a;have i:Hid (Below w.heap.size w w1):=Below.step a (c _ _ _) Bg;obtain⟨dm,f3,iw⟩:=b.out.all;clear a c d;go_wp2
  obtain⟨g,h⟩:=ti b.out As i.out (D);have f:=g.rules.1;exact bodyPost_ret (v:=eQ (D)) D1 rfl ⟨rfl,h⟩
 .have E:op=9\/op=10:=by omega
  have j:op≠13:=As;simp only[tj,B,if_false];cases z with
  |true=>
   simp only[Bool.true_or,if_true];go_enter FW,ntmps183
   go_wp2
   refine(MR _).mono ?_;rintro e w1 ⟨rfl,a⟩;have b:Hid (ag w1 (w.heap.size+1+1) #[.bool false,.int .i64 0,.int .i64 0,.string ⟨#[]⟩] 98):=(d _ _).call a;have i:Hid (Below w.heap.size w w1):=Below.step a (c _ _ _) Bg;obtain⟨dm,f3,iw⟩:=b.out.all;clear a c d;go_wp2
   obtain⟨g,h⟩:=ti b.out As i.out (fL);have f:=g.rules.1;exact bodyPost_ret (v:=eQ (fL)) D1 rfl ⟨rfl,h⟩
  |false=>
   cases y with
   |true=>
    simp only[Bool.or_true,if_true];go_enter FW,ntmps183
    go_wp2
    refine(MR _).mono ?_;rintro e w1 ⟨rfl,a⟩;have b:Hid (ag w1 (w.heap.size+1+1) #[.bool false,.int .i64 0,.int .i64 0,.string ⟨#[]⟩] 98):=(d _ _).call a;have i:Hid (Below w.heap.size w w1):=Below.step a (c _ _ _) Bg;obtain⟨dm,f3,iw⟩:=b.out.all;clear a c d;go_wp2
    obtain⟨g,h⟩:=ti b.out As i.out (fL);have f:=g.rules.1;exact bodyPost_ret (v:=eQ (fL)) D1 rfl ⟨rfl,h⟩
   |false=>
    simp only[Bool.or_false,Bool.false_eq_true,if_false];generalize q:Cg ⟨false,s,ls,lt⟩ ⟨false,t,rs,rt⟩=D;have u:=λW=>q▸anZ ⟨false,s,ls,lt⟩ ⟨false,t,rs,rt⟩ W;clear q;rcases E with rfl|rfl
    .simp only[if_true];go_enter FW,ntmps183
     go_wp2
     refine(u _).mono ?_;rintro e o ⟨rfl,k⟩;have x:Hid (ag o (w.heap.size+1+1) #[.bool false,.int .i64 0,.int .i64 0,.string ⟨#[]⟩] 98):=(d _ _).call k;have p:Hid (Below w.heap.size w o):=Below.step k (c _ _ _) Bg;clear k u d c;go_wp2
     refine(Ch (D==0) _).mono ?_;rintro e w1 ⟨rfl,a⟩;have b:Hid (ag w1 (w.heap.size+1+1) #[.bool false,.int .i64 0,.int .i64 0,.string ⟨#[]⟩] 98):=x.out.call a;have i:Hid (Below w.heap.size w w1):=Below.step a p.out p.out.size;obtain⟨dm,f3,iw⟩:=b.out.all;clear a;go_wp2
     obtain⟨g,h⟩:=ti b.out As i.out (g4 (D==0));have f:=g.rules.1;exact bodyPost_ret (v:=eQ (g4 (D==0))) D1 rfl ⟨rfl,h⟩
    .simp only[Int.reduceEq,if_false];go_enter FW,ntmps183
     go_wp2
     refine(u _).mono ?_;rintro e o ⟨rfl,k⟩;have x:Hid (ag o (w.heap.size+1+1) #[.bool false,.int .i64 0,.int .i64 0,.string ⟨#[]⟩] 98):=(d _ _).call k;have p:Hid (Below w.heap.size w o):=Below.step k (c _ _ _) Bg;clear k u d c;go_wp2
     refine(Ch (decide (D<0)) _).mono ?_;rintro e w1 ⟨rfl,a⟩;have b:Hid (ag w1 (w.heap.size+1+1) #[.bool false,.int .i64 0,.int .i64 0,.string ⟨#[]⟩] 98):=x.out.call a;have i:Hid (Below w.heap.size w w1):=Below.step a p.out p.out.size;obtain⟨dm,f3,iw⟩:=b.out.all;clear a;go_wp2
     obtain⟨g,h⟩:=ti b.out As i.out (g4 (decide (D<0)));have f:=g.rules.1;exact bodyPost_ret (v:=eQ (g4 (decide (D<0)))) D1 rfl ⟨rfl,h⟩
end bZ
namespace bZ
open RowKit av
def Z7:(ae prog false).funcs[(180:Nat)]?=some f180:=a6 (upd:=false) func180 AV
@[simp] theorem aD7 (args:Array Value) (w:aO):Sem.run (ae prog false) (callFunc 180 args) w=.ok (.enter 180 args) w:=cB Z7 AV args w
def z6(ds:List bD):List Value:=ds.flatMap λd=>[.bool d.eG,.int .i64 d.num,.int .i64 d.ck,.string d.text]
theorem Z8(ds:List bD)(d:bD):z6 (ds++[d])=z6 ds++[.bool d.eG,.int .i64 d.num,.int .i64 d.ck,.string d.text]:=by simp[z6]
variable{w:aO}{g:Nat}{e:TypeId}
theorem FX{b:Nat}{cs be:Array Value}{T:TypeId}(h:ag w b cs T)(hg:w.heap[g]?=some (.cells be e (0,0)))(a:T≠e):b≠g:=by rintro rfl;simp_all[ag]
variable{n size:Nat}{v:Value}
theorem MU{base:Nat}{xs:List Value}(h:w.ownsRow base e size v n xs)(hg:v.ownBlock=some g):∃be,w.heap[g]?=some (.cells be e (0,0)):=by
 rcases h.2 with⟨rfl,_⟩|⟨g',cap,be,rfl,_,a,_⟩
 .simp[Value.ownBlock]at hg
 grind[Value.ownBlock]
theorem LA{base:Nat}{xs:List Value}(h:w.ownsRow base e size v n xs){a:Addr}(b:∀g,v.ownBlock=some g->g≠a.block)(u:Value):(w.setCell a u).ownsRow base e size v n xs:=by refine⟨h.1,h.2.imp_right ?_⟩;rintro⟨g,cap,be,rfl,h1,c,h3⟩;exact⟨g,cap,be,rfl,h1,by rw[Below.heap_setCell _ _ _ _ (b g rfl)];exact c,h3⟩
structure ju(B m:Nat)(pv dn:Value)(ds:List bD)(W:aO):Prop where
 ge:B<=m
 own:∃sv,ag W m #[pv,dn,sv] 273/\W.ownsRow B 98 4 sv ds.length (z6 ds)
variable{B m:Nat}{dn pv:Value}{ds:List bD}
theorem ju.call{W W':aO}(h:ju B m pv dn ds W)(a:Below W.heap.size W W'):ju B m pv dn ds W':=by obtain⟨sv,h1,b⟩:=h.own;exact⟨h.ge,sv,h1.call a,HI b a⟩
def SZ(h:ju B m pv dn ds w)(J:B<=w.heap.size)(hn:ds.length<=1000000)(d:bD):
 Calls (ae prog false) 180 #[.pointer (some ⟨m,0,none⟩),eQ d] w λe w'=>e=.returned (.tuple #[])/\ju B m pv dn (ds++[d]) w'/\Below B w w':=by
 obtain⟨z,sv,x,i⟩:=h;obtain⟨sa,k,rfl⟩:=m9 i;have U:Hid (ag w m #[pv,dn,.slice sa ds.length k] 273):=x;obtain⟨bF,b,a,c⟩:=d;go_enter Z7,ntmps180
 go_upto_region 1 with fail
 have o:Below w.heap.size w (w.alloc (.cells #[.bool bF,.int .i64 b,.int .i64 a,.string c] 98)):=(Below.refl _ _).alloc J1 _;have M:Hid (ag (w.alloc (.cells #[.bool bF,.int .i64 b,.int .i64 a,.string c] 98)) w.heap.size #[.bool bF,.int .i64 b,.int .i64 a,.string c] 98):=ag.new _ _ _;have A:Hid (ag (w.alloc (.cells #[.bool bF,.int .i64 b,.int .i64 a,.string c] 98)) m #[pv,dn,.slice sa ds.length k] 273):=x.call o;have E:Hid _:=HI i o;have D:Hid (Below w.heap.size w (w.alloc (.cells #[.bool bF,.int .i64 b,.int .i64 a,.string c] 98))):=o;have V:Hid (B<=(w.alloc (.cells #[.bool bF,.int .i64 b,.int .i64 a,.string c] 98)).heap.size):=by unfold Hid;simp;omega
 clear o x i U;generalize w.alloc (.cells #[.bool bF,.int .i64 b,.int .i64 a,.string c] 98)=f at *;obtain⟨c0,dA,eX⟩:=A.out.all;obtain⟨Z,X,W⟩:=M.out.all;have n:Hid ((f.alloc (.cells #[.bool bF,.int .i64 b,.int .i64 a,.string c] 98)).drew.ownsRow B 98 4 (.slice sa ds.length k) ds.length (z6 ds)):=World.ownsRow.alloc E.out _;have H:Hid (∀j u,([.bool bF,.int .i64 b,.int .i64 a,.string c]:List Value)[j]?=some u->(f.alloc (.cells #[.bool bF,.int .i64 b,.int .i64 a,.string c] 98)).drew.cell? ⟨f.heap.size,j,none⟩=some u):=λj u t=>by simp_all
 have F:Hid ((f.alloc (.cells #[.bool bF,.int .i64 b,.int .i64 a,.string c] 98)).drew.heap.size=f.heap.size+1):=Br;have y:Hid (B<=(f.alloc (.cells #[.bool bF,.int .i64 b,.int .i64 a,.string c] 98)).drew.heap.size):=by grind[Hid]
 have I:Hid (∀u∈([.bool bF,.int .i64 b,.int .i64 a,.string c]:List Value),u.oneCell'=true):=by intro u t;simp at t;rcases t with rfl|rfl|rfl|rfl<;>rfl
 have Q:Hid (Below w.heap.size w (f.alloc (.cells #[.bool bF,.int .i64 b,.int .i64 a,.string c] 98)).drew):=(D.out.alloc D.out.size _).drew;have p:Hid (ag (f.alloc (.cells #[.bool bF,.int .i64 b,.int .i64 a,.string c] 98)).drew m #[pv,dn,.slice sa ds.length k] 273):=(A.out.alloc _).drew;go_region_law (refine Lg Ye _ Bo _ _ Bo B _ _ _ Bo n.out f.heap.size 1 1 _ Bo rfl H.out I.out As As As y.out (f.heap.size+1) F.out ?_;intro v r q S l R T;obtain⟨N,L,K⟩:=(p.out.grown l (λg hg=>by obtain⟨be,s⟩:=MU n.out hg;exact FX p.out s Ae)).all)
 all_goals
  have C:ag q m #[pv,dn,.slice sa ds.length k] 273:=p.out.grown l (λg hg=>by obtain⟨be,s⟩:=MU n.out hg;exact FX p.out s Ae);have P:Hid (ju B m pv dn (ds++[⟨bF,b,a,c⟩]) (q.setCell ⟨m,2,none⟩ (.slice (some ⟨v,0,none⟩) (ds.length+1) r))):=by refine⟨z,_,by simpa using C.set 2 (.slice (some ⟨v,0,none⟩) (ds.length+1) r),?_⟩;grind[Z8,LA,MU,FX]
  have O:Hid (Below B w (q.setCell ⟨m,2,none⟩ (.slice (some ⟨v,0,none⟩) (ds.length+1) r))):=((Q.out.mono J).grown l y.out (λg hg=>(World.ownsRow.lt n.out g hg).1)).setCell z _;clear S l R T N L K C;go_end0
  exact⟨rfl,P.out,O.out⟩
def Z9:(ae prog false).funcs[(179:Nat)]?=some f179:=a6 (upd:=false) func179 AV
@[simp] theorem aD9 (args:Array Value) (w:aO):Sem.run (ae prog false) (callFunc 179 args) w=.ok (.enter 179 args) w:=cB Z9 AV args w
def an4(m:Nat)(w w':aO):Prop:=∀(b:Nat)(cs:Array Value)(T:TypeId),b≠m->ag w b cs T->ag w' b cs T
def an5(ds:List bD):(z6 ds).length=ds.length*4:=by induction ds with|nil=>rfl|cons a l b=>grind[z6,List.length_cons]
def MX{d:bD}(h:ju B m pv dn (ds++[d]) w)(u:B<=w.heap.size)(hn:ds.length<=1000000):
 Calls (ae prog false) 179 #[.pointer (some ⟨m,0,none⟩)] w λe w'=>e=.returned (eQ d)/\ju B m pv dn ds w'/\Below B w w'/\an4 m w w':=by
 obtain⟨i,sv,f,a⟩:=h;rw[List.length_append,List.length_singleton]at a;obtain⟨g,cap,rfl⟩:=ownsRow_succ a;obtain⟨bF,k,j,l⟩:=d;have n:=an5 ds;rw[Z8]at a;have hg:=(World.ownsRow.lt a g rfl).2;have cX:=qV a (ds.length*4) (.bool bF) AA;have c1:=qV a (ds.length*4+1) (.int .i64 k) AA;have cr:=qV a (ds.length*4+2) (.int .i64 j) AA;have dm:=qV a (ds.length*4+3) (.string l) AA;have A:ds.length+1<=cap:=by
  rcases a.2 with⟨h0,_⟩|⟨g',cap',be,t,_,_,h1,_⟩
  .cases h0
  grind
 have p:Hid (ag w m #[pv,dn,.slice (some ⟨g,0,none⟩) (ds.length+1) cap] 273):=f;obtain⟨y,dA,x⟩:=f.all;have q:Hid (w.ownsRow B 98 4 (.slice (some ⟨g,0,none⟩) ds.length cap) ds.length (z6 ds)):=by have:=Xg a ds.length As;grind
 have z:Hid (g≠m):=by obtain⟨be,s⟩:=MU a (g:=g) rfl;grind[FX]
 clear f a n;go_enter Z9,ntmps179
 go_wp2
 refine bodyPost_ret (v:=eQ ⟨bF,k,j,l⟩) (by simp[results,results179,go_sem]) rfl ⟨rfl,⟨i,_,((p.out.set 2 (.slice (some ⟨g,0,none⟩) ds.length cap)).alloc _).alloc _,?_⟩,?_,?_⟩
 .exact World.ownsRow.alloc (World.ownsRow.alloc (LA q.out (λg' r=>Hj) _) _) _
 .exact(((Below.refl _ w).setCell i _).alloc Bg _).alloc Bg _
 .intro b cs T c o;exact((o.iA c _).alloc _).alloc _
def MY:(ae prog false).funcs[(181:Nat)]?=some f181:=a6 (upd:=false) func181 AV
@[simp] theorem aD_ (args:Array Value) (w:aO):Sem.run (ae prog false) (callFunc 181 args) w=.ok (.enter 181 args) w:=cB MY AV args w
variable{vals:List bD}
theorem an6(h:ju B m pv dn ds w)(l:lO w dn vals)(t:bI)(i:Nat)(h1:t.op=1)(c:t.a=i)(hi:i<vals.length):
 Calls (ae prog false) 181 #[.pointer (some ⟨m,0,none⟩),qW t] w λe w'=>e=.returned (eQ vals[i])/\Below w.heap.size w w':=by
 obtain⟨p,sv,f,b⟩:=h;obtain⟨y,cap,rfl,s,j⟩:=l;obtain⟨g,off,rfl,cX,c1,cr,dm,-⟩:=j i hi;obtain⟨op,a,z,ts⟩:=t;simp only at h1 c;subst h1;subst c;simp at cX;have hg:=fS cX;obtain⟨x,dA,u⟩:=f.all;generalize vals[i]=d at *;obtain⟨bF,n,k,o⟩:=d;have q:(0:Int)<=(i:Int):=As;have r:(i:Int)<(vals.length:Int):=As;clear f b j;go_enter MY,ntmps181
 go_wp2
 go_region
 go_wp2
 exact bodyPost_ret (v:=eQ ⟨bF,n,k,o⟩) (by simp[results,results181,go_sem]) rfl ⟨rfl,(((Below.refl _ w).alloc J1 _).alloc A_ _).drew⟩
def MZ:(ae prog false).funcs[(178:Nat)]?=some f178:=a6 (upd:=false) func178 AV
@[simp] theorem aEb (args:Array Value) (w:aO):Sem.run (ae prog false) (callFunc 178 args) w=.ok (.enter 178 args) w:=cB MZ AV args w
def M0(vals:List bD)(t:bI)(d:bD):Prop:=(t.op=1/\∃i,∃h:i<vals.length,t.a=(i:Nat)/\d=vals[i])\/(t.op=2/\d=⟨false,t.v,0,f9⟩)\/(t.op=4/\d=⟨false,0,0,t.s⟩)
def an7(h:ju B m pv dn ds w)(b:lO w dn vals)(t:bI)(d:bD)(hd:M0 vals t d):
 Calls (ae prog false) 181 #[.pointer (some ⟨m,0,none⟩),qW t] w λe w'=>e=.returned (eQ d)/\Below w.heap.size w w':=by
 rcases hd with⟨h1,i,hi,j,rfl⟩|⟨f,rfl⟩|⟨c,rfl⟩
 .grind[an6]
 .obtain⟨op,a,g,ts⟩:=t;simp only at f;subst f;clear h b;go_enter MY,ntmps181
  go_wp2
  exact bodyPost_ret (v:=eQ ⟨false,g,0,f9⟩) (by simp[results,results181,go_sem,f9]) rfl ⟨rfl,((Below.refl _ w).alloc J1 _).alloc A_ _⟩
 .obtain⟨op,a,g,ts⟩:=t;simp only at c;subst c;clear h b;go_enter MY,ntmps181
  go_wp2
  exact bodyPost_ret (v:=eQ ⟨false,0,0,ts⟩) (by simp[results,results181,go_sem]) rfl ⟨rfl,((Below.refl _ w).alloc J1 _).alloc A_ _⟩
theorem an8(h:ju B m pv dn ds w)(r:B<=w.heap.size)(hn:ds.length<=1000)(i:lO w dn vals)(t:bI)(d:bD)(hd:M0 vals t d):
 Calls (ae prog false) 178 #[.pointer (some ⟨m,0,none⟩),qW t] w λe w'=>e=.returned (.tuple #[])/\ju B m pv dn (ds++[d]) w'/\Below B w w':=by
 have j:t.op=1\/t.op=2\/t.op=4:=by rcases hd with h|h|h<;>simp[h.1]
 have v:Hid (M0 vals t d):=hd;obtain⟨op,a,s,ts⟩:=t;simp only at j;have f:Hid (ju B m pv dn ds w):=h;have n:Hid (lO w dn vals):=i;clear h i hd;rcases j with rfl|rfl|rfl;all_goals
  go_enter MZ,ntmps178
  go_wp2
  have c:=λo=>((Below.refl _ w).alloc J1 o:Below w.heap.size w (w.alloc o));refine(an7 (f.out.call (c _)) (n.out.mono BR (bo.cj (c _))) ⟨_,a,s,ts⟩ d v.out).mono ?_;rintro e w1 ⟨rfl,l⟩;have b:=Below.step l (c _) A_;have x:Hid (ju B m pv dn ds w1):=f.out.call b;have k:Hid (Below w.heap.size w w1):=b;clear l b c;go_wp2
  refine(SZ x.out (by have:=k.out.size;omega) As _).mono ?_;rintro e p ⟨rfl,g,b⟩;have u:Hid _:=g;have q:Hid (Below B w p):=(k.out.mono r).trans b;clear g b;go_wp2
  go_end0
  exact⟨rfl,u.out,q.out⟩
theorem an9{l r:bD}(h:ju B m pv dn (ds++[l]++[r]) w)(V:B<=w.heap.size)(hn:ds.length<=1000)(t:bI)(J:t.op=9\/t.op=10\/t.op=12):
 Calls (ae prog false) 178 #[.pointer (some ⟨m,0,none⟩),qW t] w λe w'=>e=.returned (.tuple #[])/\ju B m pv dn (ds++[tj t.op l r]) w'/\Below B w w':=by
 obtain⟨op,a,j,ts⟩:=t;simp only at J⊢;have D:Hid (ju B m pv dn (ds++[l]++[r]) w):=h;have o1:op≠1:=As;have o2:op≠2:=As;have o3:op≠3:=As;have o4:op≠4:=As;have Z_:op≠8:=As;have aEc:op≠14:=As;have aEd:op≠15:=As;clear h;go_enter MZ,ntmps178
 go_wp2
 have b:Below w.heap.size w (w.alloc (.cells #[.int .i64 op,.int .i64 a,.int .i64 j,.string ts] 32)):=(Below.refl _ _).alloc J1 _;have X:m<w.heap.size:=by obtain⟨sv,U,-⟩:=D.out.own;exact U.lt
 have K:ag (w.alloc (.cells #[.int .i64 op,.int .i64 a,.int .i64 j,.string ts] 32)) w.heap.size #[.int .i64 op,.int .i64 a,.int .i64 j,.string ts] 32:=ag.new _ _ _;refine(MX (D.out.call b) (by have:=b.size;omega) AA).mono ?_;rintro e w1 ⟨rfl,H,N,O⟩;have z:=O _ _ _ As K;have IW:Hid (ju B m pv dn (ds++[l]) w1):=H;have IY:Hid (ag w1 w.heap.size #[.int .i64 op,.int .i64 a,.int .i64 j,.string ts] 32):=z;have W:Hid (Below B w w1):=(b.mono V).trans N;obtain⟨u,dA,s⟩:=z.all;clear H N O z K b;obtain⟨p,o,y,lt⟩:=l;obtain⟨d,f,i,rt⟩:=r;go_wp2
 have b:Below w1.heap.size w1 (w1.alloc (.cells #[.bool d,.int .i64 f,.int .i64 i,.string rt] 98)):=(Below.refl _ _).alloc J1 _;have M:ag (w1.alloc (.cells #[.bool d,.int .i64 f,.int .i64 i,.string rt] 98)) w1.heap.size #[.bool d,.int .i64 f,.int .i64 i,.string rt] 98:=ag.new _ _ _;refine(MX (IW.out.call b) (by have:=b.size;grind) As).mono ?_;rintro e c ⟨rfl,F,L,x⟩;have A:=x _ _ _ As (IY.out.alloc _);have k:=x _ _ _ AA M;have S1:Hid (ju B m pv dn ds c):=F;have q:Hid (Below B w c):=W.out.trans ((b.mono AA).trans L);have Z:Hid _:=A;have Cj:Hid _:=k;clear u dA s;obtain⟨u,dA,s⟩:=A.all;obtain⟨T,S,R⟩:=k.all;clear F L x A k M b;go_wp2
 have b:Below c.heap.size c (c.alloc (.cells #[.bool p,.int .i64 o,.int .i64 y,.string lt] 98)):=(Below.refl _ _).alloc J1 _;refine(an2 _ op ⟨p,o,y,lt⟩ ⟨d,f,i,rt⟩ _ J).mono ?_;rintro e C ⟨rfl,I⟩;have n:Hid (Below c.heap.size c C):=Below.step I b A_;have S5:Hid (ju B m pv dn ds C):=S1.out.call n.out;clear I b u dA s T S R;go_wp2
 refine(SZ S5.out (by have:=n.out.size;have:=q.out.size;omega) As (tj op ⟨p,o,y,lt⟩ ⟨d,f,i,rt⟩)).mono ?_;rintro e Q ⟨rfl,g,E⟩;have v:Hid _:=g;have P:Hid (Below B w Q):=q.out.trans ((n.out.mono JC).trans E);clear g E;go_wp2
 go_end0
 exact⟨rfl,v.out,P.out⟩
theorem aob{d:bD}(h:ju B m pv dn (ds++[d]) w)(z:B<=w.heap.size)(hn:ds.length<=1000)(t:bI)(o:t.op=14\/t.op=15):
 Calls (ae prog false) 178 #[.pointer (some ⟨m,0,none⟩),qW t] w λe w'=>e=.returned (.tuple #[])/\ju B m pv dn (ds++[uw t.op d]) w'/\Below B w w':=by
 obtain⟨op,a,b,ts⟩:=t;simp only at o⊢;have x:Hid (ju B m pv dn (ds++[d]) w):=h;have C:m<w.heap.size:=by obtain⟨sv,y,-⟩:=h.own;exact y.lt
 clear h;have j:Below w.heap.size w (w.alloc (.cells #[.int .i64 op,.int .i64 a,.int .i64 b,.string ts] 32)):=(Below.refl _ _).alloc J1 _;have i:Hid (ag (w.alloc (.cells #[.int .i64 op,.int .i64 a,.int .i64 b,.string ts] 32)) w.heap.size #[.int .i64 op,.int .i64 a,.int .i64 b,.string ts] 32):=ag.new _ _ _;have c:Hid (ju B m pv dn (ds++[d]) (w.alloc (.cells #[.int .i64 op,.int .i64 a,.int .i64 b,.string ts] 32)).drew):=(x.out.call j).call (Below.refl _ _).drew;have k:Hid (Below w.heap.size w (w.alloc (.cells #[.int .i64 op,.int .i64 a,.int .i64 b,.string ts] 32)).drew):=j.drew;clear j;obtain⟨p,g⟩:∃p,p=w.alloc (.cells #[.int .i64 op,.int .i64 a,.int .i64 b,.string ts] 32):=⟨_,rfl⟩;rw[<-g]at i c k;have A:Hid _:=g;clear g;rcases o with rfl|rfl;all_goals
  go_enter MZ,ntmps178
  go_upto_region 13 with fail
  rw[<-A.out];obtain⟨H,dA,F⟩:=i.out.all;go_region_with (first|(go_at_call 179;refine(MX c.out (by have:=k.out.size;omega) As).mono ?_;rintro e w1 ⟨rfl,l,q,r⟩;obtain⟨u1,u2,u3⟩:=(r _ _ _ As i.out.drew).all)|(go_at_call 182;refine(an1 _ ⟨_,a,b,ts⟩ d _ A_).mono ?_;rintro e E ⟨rfl,f⟩)|(go_at_call 180;refine(SZ (l.call f) (by have:=f.size;grind) As (uw _ d)).mono ?_;rintro e u ⟨rfl,s,n⟩))
  all_goals
   have D:Hid _:=s;have v:Hid (Below B w u):=(k.out.mono z).trans (q.trans ((f.mono AA).trans n));clear l q r f s n u1 u2 u3;go_wp2
   go_end0
   exact⟨rfl,D.out,v.out⟩
def FY(vals:List bD)(t:bI)(ds ij:List bD):Prop:=
 (∃d,M0 vals t d/\ij=ds++[d])\/
 ((t.op=14\/t.op=15)/\∃xP d,ds=xP++[d]/\ij=xP++[uw t.op d])\/
 ((t.op=9\/t.op=10\/t.op=12)/\∃xP l r,ds=xP++[l]++[r]/\ij=xP++[tj t.op l r])
def sk(vals:List bD):List bI->List bD->List bD->Prop
 | [],ds,out=>ds=out
 |t::ts,ds,out=>∃ij,FY vals t ds ij/\sk vals ts ij out
variable{ij:List bD}
def FY.len{t:bI}(h:FY vals t ds ij):ij.length<=ds.length+1:=by rcases h with⟨d,-,rfl⟩|⟨-,a,d,rfl,rfl⟩|⟨-,a,l,r,rfl,rfl⟩<;>simp
def aoc(h:ju B m pv dn ds w)(g:B<=w.heap.size)(hn:ds.length<=1000)(c:lO w dn vals)(t:bI)(hs:FY vals t ds ij):
 Calls (ae prog false) 178 #[.pointer (some ⟨m,0,none⟩),qW t] w λe w'=>e=.returned (.tuple #[])/\ju B m pv dn ij w'/\Below B w w':=by
 rcases hs with⟨d,hd,rfl⟩|⟨b,a,d,rfl,rfl⟩|⟨f,a,l,r,rfl,rfl⟩
 .grind[an8]
 .grind[aob]
 grind[an9]
def RN:(ae prog false).funcs[(176:Nat)]?=some f176:=a6 (upd:=false) func176 AV
@[simp] theorem aEf (args:Array Value) (w:aO):Sem.run (ae prog false) (callFunc 176 args) w=.ok (.enter 176 args) w:=cB RN AV args w
theorem aod(ts:List bI)(N:Value)(pv dn:Value)(vals:List bD)(d:bD)(w:aO)(ht:p8 w N ts)(X:∃a n c,pv=.slice a n c)(s:lO w dn vals)(Bv:ts.length<=900)(I:sk vals ts [] [d]):
 Calls (ae prog false) 176 #[N,.agg #[pv,dn]] w λe w'=>e=.returned (eQ d)/\Below w.heap.size w w':=by
 obtain⟨g,hY,pc,rfl⟩:=X;obtain⟨bz,cap,rfl,hl,y⟩:=id ht;obtain⟨h,f,HP,-⟩:=s.shape;subst HP;have R:Hid _:=s;have T:Hid (sk vals ts [] [d]):=I;clear s I;go_enter RN,ntmps176
 go_wp2
 have O:ag (((w.alloc (.cells #[.slice g hY pc,.slice h vals.length f] 81)).alloc (.cells #[.bool false,.int .i64 0,.int .i64 0,.string ⟨#[]⟩] 98)).alloc (.cells #[.slice g hY pc,.slice h vals.length f,.slice none 0 0] 273)) (w.heap.size+1+1) #[.slice g hY pc,.slice h vals.length f,.slice none 0 0] 273:=by have:=ag.new ((w.alloc (.cells #[.slice g hY pc,.slice h vals.length f] 81)).alloc (.cells #[.bool false,.int .i64 0,.int .i64 0,.string ⟨#[]⟩] 98)) #[.slice g hY pc,.slice h vals.length f,.slice none 0 0] 273;simp_all
 have M3:Hid (ju (w.heap.size+1+1) (w.heap.size+1+1) (.slice g hY pc) (.slice h vals.length f) [] _):=⟨Nat.le_refl _,_,O,World.ownsRow_nil _ _ _ _⟩;have C:ag (((w.alloc (.cells #[.slice g hY pc,.slice h vals.length f] 81)).alloc (.cells #[.bool false,.int .i64 0,.int .i64 0,.string ⟨#[]⟩] 98)).alloc (.cells #[.slice g hY pc,.slice h vals.length f,.slice none 0 0] 273)) (w.heap.size+1) #[.bool false,.int .i64 0,.int .i64 0,.string ⟨#[]⟩] 98:=by have:=(ag.new (w.alloc (.cells #[.slice g hY pc,.slice h vals.length f] 81)) #[.bool false,.int .i64 0,.int .i64 0,.string ⟨#[]⟩] 98).alloc (.cells #[.slice g hY pc,.slice h vals.length f,.slice none 0 0] 273);simp_all
 have B:Hid _:=C;have HZ:Hid (Below w.heap.size w (((w.alloc (.cells #[.slice g hY pc,.slice h vals.length f] 81)).alloc (.cells #[.bool false,.int .i64 0,.int .i64 0,.string ⟨#[]⟩] 98)).alloc (.cells #[.slice g hY pc,.slice h vals.length f,.slice none 0 0] 273))):=(((Below.refl _ w).alloc J1 _).alloc A_ _).alloc Bg _;have A:Hid (w.heap.size+1+1<=(((w.alloc (.cells #[.slice g hY pc,.slice h vals.length f] 81)).alloc (.cells #[.bool false,.int .i64 0,.int .i64 0,.string ⟨#[]⟩] 98)).alloc (.cells #[.slice g hY pc,.slice h vals.length f,.slice none 0 0] 273)).heap.size):=by unfold Hid;simp
 clear O C;generalize((w.alloc (.cells #[.slice g hY pc,.slice h vals.length f] 81)).alloc (.cells #[.bool false,.int .i64 0,.int .i64 0,.string ⟨#[]⟩] 98)).alloc (.cells #[.slice g hY pc,.slice h vals.length f,.slice none 0 0] 273)=w0 at *;go_loopw [13] (λi W=>∃(k:Nat)(ds:List bD),k<=ts.length/\i=.int .i64 (k:Int)/\ds.length<=k/\sk vals (ts.drop k) ds [d]/\ju (w.heap.size+1+1) (w.heap.size+1+1) (.slice g hY pc) (.slice h vals.length f) ds W/\Below (w.heap.size+1+1) w0 W/\ag W (w.heap.size+1) #[.bool false,.int .i64 0,.int .i64 0,.string ⟨#[]⟩] 98)
  (λi _=>ts.length-(intOf i).toNat)
 case atStart=>exact⟨0,[],Nat.zero_le _,rfl,Nat.le_refl _,T.out,M3.out,Below.refl _ _,B.out⟩
 case round=>
  obtain⟨k,ds,hk,rfl,w5,hrun,t,q,H⟩:=hrel;have D:Hid _:=t;have b_:Hid (Below (w.heap.size+1+1) w0 wr):=q;have L:Hid (ag wr (w.heap.size+1) #[.bool false,.int .i64 0,.int .i64 0,.string ⟨#[]⟩] 98):=H;have p:Hid (Below w.heap.size w wr):=HZ.out.trans (q.mono As);have Ck:Hid (w.heap.size+1+1<=wr.heap.size):=Nat.le_trans A.out q.size;have iJ:w.heap.size+1+1<wr.heap.size:=by obtain⟨sv,hq,-⟩:=t.own;exact hq.lt
  clear t q H;by_cases l:k<ts.length
  .obtain⟨b,off,rfl,cX,c1,cr,dm,-⟩:=y k l;simp at cX;have o:=bo.cj p.out;have K:=o _ _ _ cX;have e1:=o _ _ _ c1;have e2:=o _ _ _ cr;have Z:=o _ _ _ dm;have QU:=fS K;rw[List.drop_eq_getElem_cons l]at hrun;obtain⟨ij,hst,P⟩:=hrun;have Q:Hid _:=hst;have z:Hid _:=P;have hlen:=hst.len;have oq:(0:Int)<=(k:Int):=As;have lL:(k:Int)<(ts.length:Int):=As;clear hst P cX c1 cr dm o y;go_wp2
   have m:Below wr.heap.size wr (wr.alloc (.cells #[.int .i64 ts[k].op,.int .i64 ts[k].a,.int .i64 ts[k].v,.string ts[k].s] 32)):=(Below.refl _ _).alloc J1 _;refine(aoc (D.out.call m) (by have:=m.size;omega) As (a8.mono BR (bo.cj (Below.step m p.out p.out.size)) R.out) ts[k] Q.out).mono ?_;rintro e w1 ⟨rfl,F,j⟩;have IW:Hid _:=F;have x:Hid (Below (w.heap.size+1+1) w0 w1):=b_.out.trans ((m.mono As).trans j);have r:Hid (ag w1 (w.heap.size+1) #[.bool false,.int .i64 0,.int .i64 0,.string ⟨#[]⟩] 98):=(L.out.alloc _).below j As;clear F j m K e1 e2 Z;go_wp2
   go_roundw
   case rel=>exact⟨k+1,ij,As,A_,As,z.out,IW.out,x.out,r.out⟩
   case measure=>simp[intOf];omega
  .have S:k=ts.length:=by omega
   subst S;rw[List.drop_length]at hrun;obtain rfl:ds=[d]:=hrun;have f8:¬((ts.length:Int)<(ts.length:Int)):=As;clear y;go_wp2
   refine(MX (ds:=[]) (d:=d) D.out As A_).mono ?_;rintro e w1 ⟨rfl,-,j,-⟩;have u:=L.out.below j As;have r:Hid (ag w1 (w.heap.size+1) #[.bool false,.int .i64 0,.int .i64 0,.string ⟨#[]⟩] 98):=u;have x:Hid (Below w.heap.size w w1):=p.out.trans (j.mono As);obtain⟨c0,dA,eX⟩:=u.all;clear u j;obtain⟨bF,J,E,M⟩:=d;go_wp2
   have V:=(((r.out.set 0 (.bool bF)).set 1 (.int .i64 J)).set 2 (.int .i64 E)).set 3 (.string M);have U:=V.rules.1;refine bodyPost_ret (v:=eQ ⟨bF,J,E,M⟩) (by simp[results,results176,go_sem,U]) rfl ⟨rfl,?_⟩;exact(((x.out.setCell A_ _).setCell A_ _).setCell A_ _).setCell A_ _
def RL:(ae prog false).funcs[(175:Nat)]?=some f175:=a6 (upd:=false) func175 AV
def jd(outs:Nat->bD)(fr n:Nat):List Nat:=(List.range' fr n).filter λi=>fq (outs i)
theorem M4(outs:Nat->bD)(fr n:Nat):jd outs fr (n+1)=jd outs fr n++(if fq (outs (fr+n))then [fr+n]else []):=by simp only[jd,List.range'_concat,List.filter_append,Nat.one_mul];grind
def aoh(outs:Nat->bD)(fr n m:Nat):∃l,jd outs fr (n+m)=jd outs fr n++l:=by induction m with|zero=>simp_all|succ m a=>grind[M4]
def aoi(outs:Nat->bD)(fr:Nat)(h:n<m)(ht:fq (outs (fr+n))=true):(jd outs fr n).length<(jd outs fr m).length/\(jd outs fr m)[(jd outs fr n).length]?=some (fr+n)/\(jd outs fr (n+1)).length=(jd outs fr n).length+1:=by obtain⟨l,e⟩:=aoh outs fr (n+1) (m-(n+1));rw[show n+1+(m-(n+1))=m by omega,M4,ht]at e;simp[e,M4,ht]
def j5(rs:List bB)(outs:Nat->bD)(fr et:Nat):List bB:=(jd outs fr (et-fr)).map λi=>rs[i]?.getD ([],[])
def M5(w0:aO)(r:bB)(W:aO)(x:Value):Prop:=
 (∃pv dn,x=.agg #[pv,dn]/\jC w0 pv r.1/\lO w0 dn r.2)/\∀(b:Nat)(c:Array Value)(e:TypeId)(z:Nat×Nat),w0.heap[b]?=some (Obj.cells c e z)->W.heap[b]?=some (Obj.cells c e z)
def aoj(w0:aO)(r:Nat->bB):LC w0.heap.size (λt=>M5 w0 (r t)):=by refine⟨λt W x h=>?_,λt W W' x h hk=>⟨h.1,λb c e z a=>hk _ _ _ _ (h.2 b c e z a) (.inl (nd a))⟩⟩;obtain⟨⟨pv,dn,rfl,⟨a1,c1,rfl,-⟩,⟨d,cr,rfl,-⟩⟩,-⟩:=h;grind
theorem aok{w0:aO}{r:bB}{p q:Value}(h:M5 w0 r w (.agg #[p,q])):jC w p r.1/\lO w q r.2:=by
 obtain⟨⟨pv,dn,e,h1,c⟩,hk⟩:=h;simp at e;obtain⟨rfl,rfl⟩:=e;have d:bo w0 w:=λb o v a=>by grind[tx,nE]
 grind[a8.mono,A3,BR]
def aol(ts:List bI)(rs:List bB)(ev aT:Value)(fr g:Nat)(outs:Nat->bD)(w0:aO)(hv:p8 w0 ev ts)(hc:hE w0 aT rs)(Bv:ts.length<=900)(tK:fr<g)(xh:g<=rs.length)(FZ:rs.length<=1000000)(hrun:∀i(h:i<rs.length),sk rs[i].2 ts [] [outs i])(FH:∃a c,aT=.slice a rs.length c/\rs.length<=c)(M jp gC:Nat)(H:w0.cell? ⟨M,0,none⟩=some ev)(F:w0.cell? ⟨M,1,none⟩=some aT)(P:w0.cell? ⟨jp,0,none⟩=some (.int .i64 fr))(ht:w0.cell? ⟨gC,0,none⟩=some (.int .i64 g)):
 E9 n (ae prog false) 175 #[.pointer (some ⟨M,0,none⟩),.pointer (some ⟨jp,0,none⟩),.pointer (some ⟨gC,0,none⟩)] (λk=>M5 w0 ((j5 rs outs fr g)[k]?.getD ([],[]))) (jd outs fr (g-fr)).length w0.heap.size w0:=by
 intro l S J W s vx zt N h0;have C:=Q0 vx zt;clear zt vx;have v:=bo.cj s;have vI:=v _ _ _ P;have F0:=v _ _ _ ht;have x:=v _ _ _ H;have S6:=v _ _ _ F;obtain⟨bz,cap,rfl,-,-⟩:=id hv;obtain⟨jm,aom,rfl,FH⟩:=FH;obtain⟨aEh,aEi,Q,-,D⟩:=id hc;cases Q;obtain⟨bT,nJ,rfl,-⟩:=D 0 As;refine callsIn_of_wp RL rfl trivial ?_ rfl;simp[Array.replicate_succ];gi_wp2
 gi_loopw [13] (λp wr=>∃i:Nat,fr+i<=g/\p=.int .i64 (i:Int)/\J (jd outs fr i).length wr/\Below w0.heap.size w0 wr/\Below w0.heap.size W wr) (λp _=>g-fr-(intOf p).toNat)
 case atStart=>exact⟨0,As,rfl,by grind[jd],s,Below.refl _ _⟩
 case round=>
  obtain⟨i,lL,rfl,O,B,T⟩:=hrel;have q:=bo.cj B;have S7:=q _ _ _ H;have PU:=q _ _ _ F;have RJ:=fS S7;have xj:Hid (p8 wr _ ts):=a8.mono p7 q hv;have K:Hid (J (jd outs fr i).length wr):=O;have r:Hid (Below w0.heap.size w0 wr):=B;have L:Hid (Below w0.heap.size W wr):=T;by_cases hlt:fr+i<g
  .have kn:fr+i<rs.length:=by omega
   obtain⟨b',HO,xQ,pv,dn,V,d1,I,y⟩:=D (fr+i) kn;cases xQ;obtain⟨R,pc,rfl,-,-⟩:=id I;obtain⟨b4,Z,rfl,-,-⟩:=id y;simp at V;have U:=q _ _ _ V;have e1:=q _ _ _ d1;have cK:=fS U;have IF:Hid (lO wr _ _):=a8.mono BR q y;have aon:Hid (jC w0 _ _):=I;have aoo:Hid (lO w0 _ _):=y;have sQ:(i:Int)<((g-fr:Nat):Int):=As;have zr:(0:Int)<=(i:Int):=As;have c0:nJ+(fr+i)*2=nJ+fr*2+i*2:=As;rw[c0]at U e1;have aop:Hid (sk rs[fr+i].2 ts [] [outs (fr+i)]):=hrun (fr+i) kn;clear O B T q P ht H F vI F0 x S6 h0 s v V d1 D c0 I y hrun;gi_wp2
   have A:Below wr.heap.size wr (wr.alloc (.cells #[.slice R rs[fr+i].1.length pc,.slice b4 rs[fr+i].2.length Z] 81)):=(Below.refl _ wr).alloc J1 _;refine⟨PA,λh=>DT,(callsIn_wide.2 (aod ts _ _ _ rs[fr+i].2 (outs (fr+i)) _ (a8.mono p7 (bo.cj A) xj.out) ⟨_,_,_,rfl⟩ (a8.mono BR (bo.cj A) IF.out) Bv aop.out)).mono ?_⟩;rintro e t ⟨rfl,X⟩;have aaa:Hid (ag t wr.heap.size #[.slice R rs[fr+i].1.length pc,.slice b4 rs[fr+i].2.length Z] 81):=(ag.new wr _ _).call X;have w:Hid (Below wr.heap.size wr t):=Below.step X A A_;obtain⟨t1,t2,t3⟩:=aaa.out.all;have S8:(jd outs fr (i+1)).length=(jd outs fr i).length+(if fq (outs (fr+i))=true then 1 else 0):=by grind[M4]
   have cQ:=aoi outs fr (n:=i) (m:=g-fr) As;clear X A U e1;generalize hd:outs (fr+i)=d at *;obtain⟨bF,j,ds,o⟩:=d;cases E:fq ⟨bF,j,ds,o⟩with
   |false=>
    gi_wp2
    refine⟨PA,λh=>DT,(callsIn_wide.2 (Z6 ⟨bF,j,ds,o⟩ E _)).mono ?_⟩;rintro e w3 ⟨rfl,rfl⟩;have u:Hid (Below w0.heap.size wr (t.alloc (.cells #[.bool bF,.int .i64 j,.int .i64 ds,.string o] 98))):=((w.out.mono r.out.size)).alloc (by have:=w.out.size;have:=r.out.size;omega) (.cells #[.bool bF,.int .i64 j,.int .i64 ds,.string o] 98);have S9:Hid (J (jd outs fr (i+1)).length (t.alloc (.cells #[.bool bF,.int .i64 j,.int .i64 ds,.string o] 98))):=by rw[S8,E];exact C _ _ _ K.out (w.out.alloc w.out.size (.cells #[.bool bF,.int .i64 j,.int .i64 ds,.string o] 98))
    clear S8 cQ N C t1 t2 t3;gi_wp2
    refine⟨λf h=>(by cases h),?_⟩;gi_wp2
    go_roundw
    case rel=>exact⟨i+1,As,A_,S9.out,r.out.trans u.out,L.out.trans u.out⟩
    case measure=>simp[intOf];omega
   |true=>
    gi_wp2
    refine⟨PA,λh=>DT,(callsIn_wide.2 (Z6 ⟨bF,j,ds,o⟩ E _)).mono ?_⟩;rintro e w3 ⟨rfl,rfl⟩;have u:Hid (Below wr.heap.size wr (t.alloc (.cells #[.bool bF,.int .i64 j,.int .i64 ds,.string o] 98))):=w.out.alloc w.out.size _;obtain⟨k1,k2,k3⟩:=cQ E;have cb:M5 w0 ((j5 rs outs fr g)[(jd outs fr i).length]?.getD ([],[])) (t.alloc (.cells #[.bool bF,.int .i64 j,.int .i64 ds,.string o] 98)) (.agg #[.slice R rs[fr+i].1.length pc,.slice b4 rs[fr+i].2.length Z]):=by
     have e:(j5 rs outs fr g)[(jd outs fr i).length]?.getD ([],[])=rs[fr+i]:=by grind[j5]
     rw[e];exact⟨⟨_,_,rfl,aon.out,aoo.out⟩,λb c e z s=>((r.out.trans (u.out.mono r.out.size)).block b (nd s)).trans s⟩
    obtain⟨fn,tmps,assign,body,hy,bE⟩:=N _ _ _ (C _ _ _ K.out u.out) k1 cb;clear cb cQ S8 N C k1 k2;gi_wp2
    refine⟨λh=>DT,bE.mono ?_⟩;rintro e q2 ⟨rfl,Bi,lN⟩;have S9:Hid (J (jd outs fr (i+1)).length q2):=by rw[k3];exact Bi
    have xO:Hid (Below w0.heap.size wr q2):=(u.out.mono r.out.size).trans lN;clear bE hy Bi lN k3 t1 t2 t3;gi_wp2
    go_roundw
    case rel=>exact⟨i+1,As,A_,S9.out,r.out.trans xO.out,L.out.trans xO.out⟩
    case measure=>simp[intOf];omega
  .have sQ:¬(i:Int)<((g-fr:Nat):Int):=by omega
   clear O B T q P ht H F vI F0 x S6 h0 s v D;gi_wp2
   go_end0
   have e:g-fr=i:=As;rw[e];exact⟨⟨_,rfl⟩,K.out,L.out⟩
open Conc ConcM bn ah fi hZ fO iE c5
theorem S_(rs:List bB)(outs:Nat->bD)(fr a:Nat):(j5 rs outs fr a).length=(jd outs fr (a-fr)).length:=by simp[j5]
theorem Ta(outs:Nat->bD)(fr n:Nat):(jd outs fr n).length<=n:=by grind[jd]
def pD(n:Nat)(v:Value):Prop:=∃a c,v=.slice a n c/\n<=c
def wk(ts:List bI)(rs:List bB)(fr et:Nat)(w:aO)(u:Value):Prop:=
 ∃lP jp gC ev aT,u=.func (.func 175) #[] #[.pointer (some ⟨lP,0,none⟩),.pointer (some ⟨jp,0,none⟩),.pointer (some ⟨gC,0,none⟩)]/\
  w.cell? ⟨lP,0,none⟩=some ev/\w.cell? ⟨lP,1,none⟩=some aT/\w.cell? ⟨jp,0,none⟩=some (.int .i64 fr)/\w.cell? ⟨gC,0,none⟩=some (.int .i64 et)/\p8 w ev ts/\hE w aT rs/\pD rs.length aT
def pD.carry{ρ:Ren}{b:Value}(h:pD n v)(e:ay ρ v b):pD n b:=by obtain⟨a,c,rfl,d⟩:=h;cases e with|jy=>exact⟨_,_,rfl,d⟩|slice=>exact⟨_,_,rfl,d⟩
def aou(ts:List bI)(rs:List bB)(fr m:Nat):BO (wk ts rs fr m):=by rintro ρ w w' u v a j ⟨g,x,y,ev,aT,rfl,h0,h1,l,h3,k,t,s⟩;obtain⟨c1,cr,dm,rfl,b,i,h⟩:=Zg j;obtain⟨f,q,p⟩:=a _ _ _ b h0;obtain⟨r,a1,c⟩:=a ⟨g,1,none⟩ ⟨c1,1,none⟩ _ ⟨b.1,rfl,rfl⟩ h1;obtain⟨dA,e,o⟩:=a _ _ _ i l;obtain⟨z,d,n⟩:=a _ _ _ h h3;rw[o.qt]at e;rw[n.qt]at d;exact⟨c1,cr,dm,f,r,rfl,q,a1,e,d,av.a8.carry zQ a p k,av.a8.carry rj a c t,s.carry c⟩
theorem wk.keeps{ts:List bI}{rs:List bB}{fr a:Nat}{w':aO}{u:Value}(hk:bo w w')(h:wk ts rs fr a w u):wk ts rs fr a w' u:=by obtain⟨b,c,f,ev,aT,rfl,h0,h1,e,h3,d,i,g⟩:=h;exact⟨b,c,f,ev,aT,rfl,hk _ _ _ h0,hk _ _ _ h1,hk _ _ _ e,hk _ _ _ h3,a8.mono p7 hk d,a8.mono r8 hk i,g⟩
def aov:(ae prog false).funcs[(173:Nat)]?=some f173:=a6 (upd:=false) func173 AV
def aow(ts:List bI)(rs:List bB)(ev aT:Value)(fr a:Nat)(w:aO)(d:p8 w ev ts)(j:hE w aT rs)(hd:pD rs.length aT):
 Calls (ae prog false) 173 #[.agg #[ev,aT],.int .i64 fr,.int .i64 a] w λe w'=>∃u,e=.returned u/\wk ts rs fr a w' u:=by
 obtain⟨c,cap,rfl,-,-⟩:=id d;obtain⟨b,cc,rfl,i⟩:=id hd;go_enter aov,ntmps173
 go_wp2
 go_ret
 have b1:=((ag.new w #[.slice c ts.length cap,.slice b rs.length cc] 107).alloc (.cells #[.int .i64 (fr:Int)] 3)).alloc (.cells #[.int .i64 (a:Int)] 3);have h:=(ag.new (w.alloc (.cells #[.slice c ts.length cap,.slice b rs.length cc] 107)) #[.int .i64 (fr:Int)] 3).alloc (.cells #[.int .i64 (a:Int)] 3);have g:=ag.new ((w.alloc (.cells #[.slice c ts.length cap,.slice b rs.length cc] 107)).alloc (.cells #[.int .i64 (fr:Int)] 3)) #[.int .i64 (a:Int)] 3;simp at h g;have f:bo w (((w.alloc (.cells #[.slice c ts.length cap,.slice b rs.length cc] 107)).alloc (.cells #[.int .i64 (fr:Int)] 3)).alloc (.cells #[.int .i64 (a:Int)] 3)):=bo.cj ((((Below.refl _ w).alloc J1 _).alloc A_ _).alloc Bg _);exact⟨_,rfl,w.heap.size,w.heap.size+1,w.heap.size+1+1,.slice c ts.length cap,.slice b rs.length cc,rfl,b1.rules.1 0,b1.rules.1 1,h.rules.1 0,g.rules.1 0,a8.mono p7 f d,a8.mono r8 f j,hd⟩
def aox:hX prog false f173=true:=by decide+kernel
def aoy:hX prog false f175=true:=by decide+kernel
structure Cn(ts:List bI)(rs:List bB)(outs:Nat->bD):Prop where
 aoz:ts.length<=900
 rows:rs.length<=1000000
 run:∀i(h:i<rs.length),sk rs[i].2 ts [] [outs i]
theorem aoA(ts:List bI)(rs:List bB)(outs:Nat->bD)(ok:Cn ts rs outs)(fr a:Nat)(d:fr<a)(b:a<=rs.length)(x:a-fr<=300)(w:aO)(u:Value)(h:wk ts rs fr a w u):
 Calls (ae prog false) 114 #[u] w λe w'=>∃v,e=.returned v/\hE w' v (j5 rs outs fr a):=by
 obtain⟨f,g,n,ev,aT,rfl,h0,h1,m,h3,l,r,o⟩:=h;have i:=Ta outs fr (a-fr);refine(X3 As w (aoj _ _) (λargs w=>cB RL aoy args w) (aol ts rs ev aT fr a outs w l r ok.aoz d b ok.rows ok.run o f g n h0 h1 m h3)).mono ?_;rintro e w' ⟨c,rfl,k,-⟩;refine⟨c,rfl,Sd k _ (S_ _ _ _ _) As λj t p q s=>?_⟩;grind[aok]
def aoB{Stop:Bool->ah.Lo At->aV->Prop}{c:dI}{cf:aO}{dE:Nat->Prop}(r:∀b,dE b->c.K b)(hg:∀g,g<=prog.globals.size->dE g)(d:ik (ed prog false) (λb=>dE b\/dh b) dh cf){k ev aT:Value}{ts:List bI}{rs:List bB}{outs:Nat->bD}(ok:Cn ts rs outs){fr a:Nat->Nat}(i:p8 cf ev ts)(j:hE cf aT rs)(hd:pD rs.length aT)(q:ay (e6 (λb=>dE b\/dh b) dh) ev ev)(m:ay (e6 (λb=>dE b\/dh b) dh) aT aT)(hinv:∀(args:Array Value)(w:aO),(callMethod k "Piece" args).run prog w=.ok (.enter 173 (#[.agg #[ev,aT]]++args)) w/\(callMethod k "Piece" args).events prog w #[]=#[])(t:∀T,T<c.N->fr T<a T/\a T<=rs.length/\a T-fr T<=300)(vC:∀T,T<c.N->c.rows T=(j5 rs outs (fr T) (a T)).length):
 ug c cf prog Stop 114 k 173 (.agg #[ev,aT]) fr a
  (λT u M w=>pr (ed prog false) dE c.K (wk ts rs (fr T) (a T)) u M w) (λT v M w=>pr (ed prog false) dE c.K (λw v=>T<c.N/\hE w v (j5 rs outs (fr T) (a T))) v M w):=by
 refine Ze ln rfl func173 aox rfl AV func114 RB rfl AV r hg d hinv (.pU (mQ λv s=>?_))
  (BP:=λT=>wk ts rs (fr T) (a T)) (BQ:=λT w v=>T<c.N/\hE w v (j5 rs outs (fr T) (a T))) (λT=>aou _ _ _ _) (λT _ _ _ _ _ j i h=>⟨h.1,Zh _ _ _ _ _ _ j i h.2⟩) (λT n w e l o f=>?_) (λT n l u s f=>?_) (λT w v h=>?_)
 .grind
 .have p:=Cm l f;exact aow ts rs ev aT (fr T) (a T) {l with tape:=f} (a8.mono p7 p (av.a8.carry zQ (o.carry (s9 d e)) q (av.a8.carry zQ (s_ e d) q i))) (a8.mono r8 p (av.a8.carry rj (o.carry (s9 d e)) m (av.a8.carry rj (s_ e d) m j))) hd
 .grind[aoA,wk.keeps,Cm]
 .obtain⟨n,x,cap,rfl,-,-⟩:=h;simp_all
end bZ
namespace bZ
open RowKit av
def Tb:(ae prog false).funcs[(118:Nat)]?=some f118:=a6 (upd:=false) func118 AV
@[simp] theorem aEl (args:Array Value) (w:aO):Sem.run (ae prog false) (callFunc 118 args) w=.ok (.enter 118 args) w:=cB Tb AV args w
theorem aoD(n:Nat)(hn:n<=1000)(w:aO):
 Calls (ae prog false) 118 #[.slice none 0 0,.int .i64 n] w λe w'=>∃v,e=.returned v/\w'.ownsRow w.heap.size 81 2 v 0 []/\Below w.heap.size w w':=by
 by_cases h0:n=0
 .subst h0;go_enter Tb,ntmps118
  go_wp2
  go_ret
  simp_all[World.ownsRow_nil,Below.refl]
 .have f:(0:Int)<(n:Int):=by omega
  have a:t81.bytes=48:=BA;have d:=nextslicecap_zero (need:=n) As;go_enter Tb,ntmps118
  go_wp2
  all_goals try(exfalso;simp only[a,d]at *;omega)
  go_ret
  have h1:n<=(Question.appendCap n 0 81).cut (w.tape w.drawn (Question.appendCap n 0 81)):=by simp[Question.cut]
  have c:(Question.appendCap n 0 81).cut (w.tape w.drawn (Question.appendCap n 0 81))<=maxLen:=by simp only[Question.cut,maxLen];have:=Nat.mod_lt (w.tape w.drawn (Question.appendCap n 0 81)) (show 0<2^63-n by omega);omega
  generalize(Question.appendCap n 0 81).cut (w.tape w.drawn (Question.appendCap n 0 81))=b at *;refine⟨_,rfl,⟨A_,.inr ⟨w.heap.size,b,_,rfl,Nat.le_refl _,(ag.new w _ _).drew,Nat.zero_le _,c,?_,A_⟩⟩,((Below.refl _ w).alloc J1 _).drew⟩;grind[size_zeroCells]
theorem Rw{n:Nat}{P:Nat->Value×Value->Prop}(h:∀i,i<n->∃p,P i p):∀k,k<=n->∃xs:List (Value×Value),xs.length=k/\∀i(hi:i<xs.length),P i xs[i]
 |0,_=>⟨[],rfl,AA⟩
 |k+1,hk=>by obtain⟨xs,h1,b⟩:=Rw h k As;obtain⟨p,a⟩:=h k As;refine⟨xs++[p],AA,λi hi=>?_⟩;grind
theorem Rr(xs:List (Value×Value))(j:Nat)(u:Value)(h:(two xs)[j]?=some u):∃i,∃hi:i<xs.length,(j=i*2/\u=xs[i].1)\/(j=i*2+1/\u=xs[i].2):=by have a:j<(two xs).length:=(List.getElem?_eq_some_iff.1 h).1;rw[X1]at a;have hi:j / 2<xs.length:=As;refine⟨j / 2,hi,?_⟩;obtain⟨g1,b⟩:=Zf xs (j / 2) hi;grind
variable{w:aO}
def aoE{v:Value}{rs:List bB}(h:hE w v rs)(h0:0<rs.length):
 ∃b off c,∃xs:List (Value×Value),v=.slice (some ⟨b,off,none⟩) rs.length c/\xs.length=rs.length/\(∀j u,(two xs)[j]?=some u->w.cell? ⟨b,off+j,none⟩=some u)/\(∀u∈two xs,u.oneCell'=true)/\
  ∀i(hi:i<xs.length)(n:i<rs.length),jC w xs[i].1 rs[i].1/\lO w xs[i].2 rs[i].2:=by
 obtain⟨r,c,rfl,-,g⟩:=h;obtain⟨b,off,rfl,-⟩:=g 0 h0;have l:∀i,i<rs.length->∃p:Value×Value,w.cell? ⟨b,off+i*2,none⟩=some p.1/\w.cell? ⟨b,off+i*2+1,none⟩=some p.2/\∀hi:i<rs.length,jC w p.1 rs[i].1/\lO w p.2 rs[i].2:=by intro i hi;obtain⟨s,t,e,pv,dn,cX,c1,q,o⟩:=g i hi;simp_all
 obtain⟨xs,m,f⟩:=Rw l rs.length J1;refine⟨b,off,c,xs,rfl,m,λj u d=>?_,λu d=>?_,AA⟩
 .grind[Rr]
 .obtain⟨j,k⟩:=List.getElem?_of_mem d;obtain⟨i,hi,⟨-,rfl⟩|⟨-,rfl⟩⟩:=Rr xs j u k
  .obtain⟨a,cc,e,-⟩:=((f i hi).2.2 As).1;rw[e];rfl
  .obtain⟨a,cc,e,-⟩:=((f i hi).2.2 As).2;rw[e];rfl
def M7(w:aO)(rd:Nat->Option Value)(rs:List bB):Prop:=∃v,rd 0=some v/\hE w v rs
def aoF:(ae prog false).funcs[(94:Nat)]?=some f94:=a6 (upd:=false) func94 AV
def kw(ps:List (List bB))(k:Nat):List bB:=(ps.take k).flatten
def j6(ps:List (List bB))(k:Nat):Nat:=(kw ps k).length
variable{ps:List (List bB)}
theorem M8{k:Nat}(h:k<ps.length):kw ps (k+1)=kw ps k++ps[k]:=by grind[kw,List.take_succ_eq_append_getElem]
theorem F2{k:Nat}(h:k<ps.length):j6 ps (k+1)=j6 ps k+ps[k].length:=by grind[j6,M8]
variable{P:cg}
def aoG(w:aO)(t ty e:TypeId)(i:TypeInfo)(ht:P.underlying t=some (.slice e))(hi:P.info? e=some i)(base xa:Option Addr)(n cap b:Nat)(a:n<=cap):
 (Builtin.append_ #[t,t] ty #[.slice base n cap,.slice xa 0 b]).run P w=.ok (.slice base n cap) w:=by
 cases base<;>cases xa<;>simp[Builtin.append_,run_underlying ht,sizeOf,typeInfo,hi,a,Builtin.lenOf,Builtin.firstCells,storeCells,go_sem]
def aoH{ops:Array Oper}{rest:List Oper}{o:Oper}{a:Act}{Q:Exit->Act->aO->Prop}(g:o.guard=none)(s x:Operand)(t:TypeId)(f:o.op=.call {callee:=.builtin .append,args:=#[s,x],argTypes:=#[t,t]})(e:TypeId)(i:TypeInfo)(ht:P.underlying t=some (.slice e))(hi:P.info? e=some i){base xa:Option Addr}{n cap c:Nat}(hs:a.eval s=.slice base n cap)(d:a.eval x=.slice xa 0 c)(b:n<=cap)(h:wpList P ops Q rest (a.put o.dst (.slice base n cap)) w):wpList P ops Q (o::rest) a w:=by
 refine wpList_plain g λK hK=>?_;have hrun:=aoG (P:=P) w t o.type e i ht hi base xa n cap c b;unfold Oper.wp;simp[execOp,f,resolve,invoke,builtin,hs,d,hrun,Result.andThen];exact hK _ _ h
def aoI{base:Nat}{e:TypeId}{size n gc:Nat}{a:Option Addr}{xs:List Value}(h:w.ownsRow base e size (.slice a n gc) n xs):n<=gc:=by
 rcases h.2 with⟨e,h0⟩|⟨g',cap',be,e,-,-,h1,-⟩
 .grind
 grind
def aoJ(ps:List (List bB))(Tc:Value)(w:aO)(h:a8 w 1 M7 Tc ps)(I3:ps.length<=1000)(V:∀k,j6 ps k<=1000):
 Calls (ae prog false) 94 #[Tc] w λe w'=>∃v,e=.returned v/\hE w' v (kw ps ps.length)/\pD (j6 ps ps.length) v/\Below w.heap.size w w':=by
 obtain⟨bz,cap,rfl,hl,D⟩:=h;go_enter aoF,ntmps94
 go_wp2
 go_loopw [3,5,11] (λa _ b W=>∃k:Nat,k<=ps.length/\a=.int .i64 (j6 ps k:Int)/\b=.int .i64 (k:Int)/\W=w) (λ_ _ b _=>ps.length-(intOf b).toNat)
 case atStart=>exact⟨0,Nat.zero_le _,rfl,rfl,rfl⟩
 case round=>
  obtain⟨k,hk,rfl,rfl,rfl⟩:=hrel;by_cases d:k<ps.length
  .obtain⟨b,off,rfl,v,f,m⟩:=D k d;simp at f;obtain⟨b4,b7,Q,-⟩:=a8.shape m;subst Q;have f7:=fS f;have oq:(0:Int)<=(k:Int):=As;have lL:(k:Int)<(ps.length:Int):=As;have l:=V (k+1);rw[F2 d]at l;have pf:¬((j6 ps k:Int)+(ps[k].length:Int)<0):=As;clear D m;generalize fl:j6 ps k=X at *;go_wp2
   exact⟨⟨k+1,As,by grind[F2],A_,PA⟩,by simp[intOf];omega⟩
  .have F:k=ps.length:=by omega
   subst F;have f8:¬((ps.length:Int)<(ps.length:Int)):=As;have F0:=V ps.length;have E:Hid _:=D;clear D;obtain⟨w,rfl⟩:∃x:aO,x=wr:=⟨wr,rfl⟩;go_wp2
   refine(aoD (j6 ps ps.length) F0 w).mono ?_;rintro e w1 ⟨v1,rfl,T,a9⟩;obtain⟨a1,c1,rfl⟩:=m9 T;have EX:Hid (w1.ownsRow w.heap.size 81 2 (.slice a1 0 c1) 0 []):=T;have ez:Hid (Below w.heap.size w w1):=a9;clear T a9;go_wp2
   go_loopw [6,8,27] (λa _ b W=>∃(k:Nat)(c:List (Value×Value))(C:Option Addr)(gc:Nat),k<=ps.length/\a=.slice C (j6 ps k) gc/\b=.int .i64 (k:Int)/\c.length=(j6 ps k)/\W.ownsRow w.heap.size 81 2 (.slice C (j6 ps k) gc) (j6 ps k) (two c)/\(∀i(h1:i<c.length)(h2:i<(kw ps k).length),jC w c[i].1 ((kw ps k)[i]).1/\lO w c[i].2 ((kw ps k)[i]).2)/\Below w.heap.size w W) (λ_ _ b _=>ps.length-(intOf b).toNat)
   case atStart=>exact⟨0,[],a1,c1,Nat.zero_le _,rfl,rfl,rfl,EX.out,AA,ez.out⟩
   case round=>
    obtain⟨k,c,C,gc,hk,rfl,rfl,B,c9,M_,hb⟩:=hrel;have r:Hid _:=c9;have S:Hid _:=M_;have n:Hid (Below w.heap.size w wr):=hb;clear c9 M_ hb;by_cases d:k<ps.length
    .obtain⟨b,off,rfl,v,f,m⟩:=E.out k d;simp at f;by_cases I:ps[k].length=0
     .obtain⟨b4,b7,rfl,-,-⟩:=id m;have o:=bo.cj n.out;have s:=o _ _ _ f;have f7:=fS s;have oq:(0:Int)<=(k:Int):=As;have lL:(k:Int)<(ps.length:Int):=As;obtain⟨H,hi,-,-,-⟩:=info_parts Q7;have l:=F2 d;rw[I,Nat.add_zero]at l;have p_:kw ps (k+1)=kw ps k:=by rw[M8 d,List.eq_nil_of_length_eq_zero I,List.append_nil]
      have P:Hid (j6 ps k<=gc):=aoI r.out;rw[I]at s;clear m f o E;go_wp2_with (at_builtin;apply Fa)
      unfold Bd;refine aoH rfl _ _ 71 rfl 81 H ((A1 _ _ _).trans underlying71) hi rfl rfl P.out ?_;have U:Hid _:=l;have O:Hid _:=p_;clear l p_ hi;go_wp2
      go_roundw
      case rel=>exact⟨k+1,c,C,gc,As,by rw[U.out];rfl,A_,by rw[U.out];grind,by rw[U.out];exact r.out,by rw[O.out];exact S.out,n.out⟩
      case measure=>simp[intOf];omega
     .have o:=bo.cj n.out;have s:=o _ _ _ f;have f7:=fS s;obtain⟨xq,A,pc,xs,rfl,R,Na,Bq,z⟩:=aoE m As;have M:Hid (∀j u,(two xs)[j]?=some u->wr.cell? (Addr.add ⟨xq,A,none⟩ j)=some u):=λj u hu=>by rw[Addr.add_lit];exact o _ _ _ (Na j u hu)
      have nR:Hid _:=Bq;have L:Hid _:=z;have oq:(0:Int)<=(k:Int):=As;have lL:(k:Int)<(ps.length:Int):=As;have l:=V (k+1);rw[F2 d]at l;obtain⟨H,hi,Fb,ES,Q8⟩:=info_parts Q7;have Z:Hid (w.heap.size<=wr.heap.size):=n.out.size;clear m f o Na Bq z E;go_wp2_with (at_builtin;apply Fa)
      unfold Bd;refine wpList_append_own _ rfl _ _ 71 rfl w.heap.size 81 H _ 2 48 ((A1 _ _ _).trans underlying71) hi Fb ES Q8 rfl Ae (.slice C (j6 ps k) gc) (j6 ps k) (two c) rfl r.out ⟨xq,A,none⟩ ps[k].length pc (two xs) rfl (by rw[X1,R]) M.out nR.out (by unfold maxLen;omega) As Z.out ?_;intro v' w2 y Se _;obtain⟨g2,cr,rfl⟩:=m9 y;have K:Hid (w2.ownsRow w.heap.size 81 2 (.slice g2 (j6 ps (k+1)) cr) (j6 ps (k+1)) (two (c++xs))):=by grind[Hid,F2,two]
      have hM:Hid (Below w.heap.size w w2):=n.out.grown Se Z.out (λg hg=>(World.ownsRow.lt r.out g hg).1);have Cj:Hid (∀i(h1:i<(c++xs).length)(h2:i<(kw ps (k+1)).length),jC w (c++xs)[i].1 ((kw ps (k+1))[i]).1/\lO w (c++xs)[i].2 ((kw ps (k+1))[i]).2):=by
       intro i h1 h2;have aEn:c.length=(kw ps k).length:=B;simp[M8 d];by_cases t:i<c.length
       .rw[List.getElem_append_left t,List.getElem_append_left As];exact S.out i t As
       .rw[List.getElem_append_right As,List.getElem_append_right As];have:=L.out (i-c.length) AA AA;grind
      have Bv:=F2 d;have J:Hid ((c++xs).length=j6 ps (k+1)):=by grind[Hid]
      clear y Se s;rw[<-Bv];clear Bv;go_wp2
      go_roundw
      case rel=>exact⟨k+1,c++xs,g2,cr,As,rfl,A_,J.out,K.out,Cj.out,hM.out⟩
      case measure=>simp[intOf];omega
    .have F:k=ps.length:=by omega
     subst F;have lN:¬((ps.length:Int)<(ps.length:Int)):=As;clear E;go_wp2
     go_ret
     have o:=bo.cj n.out;have FH:j6 ps ps.length<=gc:=by
      rcases r.out.2 with⟨e,h0⟩|⟨g',cap',be,e,-,-,h1,-⟩
      .grind
      grind
     refine⟨_,rfl,?_,⟨_,_,rfl,FH⟩,n.out⟩;exact Sd (Row:=λj W x=>∃h:j<c.length,x=.agg #[c[j].1,c[j].2]) (N:=j6 ps ps.length) ⟨c,B,r.out,AA⟩ (kw ps ps.length) rfl As (λj hj p q⟨hy,e⟩=>by
      simp at e;obtain⟨rfl,rfl⟩:=e;obtain⟨r1,r2⟩:=S.out j hy hj;grind[a8.mono,A3,BR])
open Conc ConcM bn ah hZ fO iE pE c5
variable{w0:aO}{M aX:Nat->Prop}{bs:List (Nat×Obj)}
def Q_{upd:Bool}(A:(ed P upd).Good)(V:upd=false){f:FuncId}{fn:Func}{B:Code}(t:P.funcs[f]?=some fn)(hk:hX P upd fn=true)(a:fn.body=some B)(z:BK fn=true)(k:∀b,M b->aX b)(hg:∀g,g<=P.globals.size->M g){args:Array Value}(y:aS (e6 M dh) args args)(D:ik (ed P upd) M dh w0){n:Int}(U:∀w,(∀b,M b->w.heap[b]?=w0.heap[b]?)->∀i,gA (ed P upd) M dh w i->∀T,Calls (ae P upd) f args {i with tape:=T} (λe _=>e=.returned (.int .i64 n))){ST:Bool->eV.Lo->aV->Prop}(r:∀m l g w N j,(∀b,N b->j b)->ST m l ⟨g,w,N⟩->ST m l ⟨g,w,j⟩){m:Bool}:
 i_ P ST m f args (je eV () aX w0 bs) (λu E=>u=.int .i64 n/\E=je eV () aX w0 bs):=by
 intro a2 aF aD aI aL aH csZ L w γ hS
 have hF:af eV aX w0 bs w:=hS
 have K:∀b,M b->w.heap[b]?=w0.heap[b]?:=λb a=>hF.rw.heap b AA
 have J:ik (ed P upd) M dh w:=s9 D K
 obtain⟨i,I⟩:=HB (ed P upd) M dh w
 have q:=iZ.more (K':=M) AA (RZ A t hk a z J hg AA y (R:=λv _=>v=.int .i64 n) I AA m (a2.at aF (.inRegion aD (aI::aL)::aH)) csZ)
 have S:(⟨aZ (Frame.enter P f args .normal) (a2.at aF (.inRegion aD (aI::aL)::aH)::csZ),w,cd aX bs⟩:aV)=qm ⟨aZ (Frame.enter P f args .normal) (a2.at aF (.inRegion aD (aI::aL)::aH)::csZ),w,dh⟩ (cd aX bs):=by
  unfold qm;congr 1
  funext b
  exact propext ⟨.inr,λh=>h.resolve_left (λx=>x)⟩
 show bh _ _ _ _ () γ ⟨aZ (Frame.enter P f args .normal) (a2.at aF (.inRegion aD (aI::aL)::aH)::csZ),w,cd aX bs⟩
 rw[S]
 have c:∀b,cd aX bs b->b<w.heap.size:=by
  rintro b (h|h)
  .exact hF.lt b (.inr (.inl h))
  .obtain⟨x,s,rfl⟩:=List.mem_map.1 h;exact nd (hF.cL x s)
 refine Y8 tk rfl (λ_ _ h=>h) q γ (cd aX bs) (λb a=>.inr (.inl (k b a))) rfl (λb _ h=>h) (λb a=>⟨λx=>x,λh=>h,c b a⟩) AA AA ?_
 rintro Y H ⟨ρ,w1,v,p,d⟩ W R5 Mm X hsz F Z Mn o Q O
 obtain rfl:p=.int .i64 n:=by have:=d.val;rw[d.post]at this;exact this.qt
 have C:af eV aX w0 bs Y.w:=hF.on ⟨AA,hsz,o,Q,O⟩
 have:=L (.int .i64 n) (je eV () aX w0 bs) ⟨rfl,rfl⟩ Y.w H C
 unfold qm
 have e:=d.g
 rw[Frame.finish_at]at e
 rw[e]
 exact bh.more r this (λb a=>.inr a)
def aoU:(ae prog false).funcs[(209:Nat)]?=some f209:=a6 (upd:=false) func209 AV
def aoV:(ae prog false).funcs[(174:Nat)]?=some f174:=a6 (upd:=false) func174 AV
def aoW(t:List aA)(v:Value)(w:aO)(f:m8 w v t)(h0:0<t.length):
 Calls (ae prog false) 209 #[.agg #[v]] w λe _=>e=.returned (.int .i64 (t[0].cp.length:Int)):=by
 obtain⟨l,cap,rfl,-,d⟩:=f;obtain⟨b,off,rfl,bg,vs,m,-,-,-,-,c,a⟩:=d 0 h0;obtain⟨i,ci,g,h,an,k,-,-,rfl⟩:=a.shape;simp at c;have j:=fS c;clear d a;have hi:(0:Int)<(t.length:Int):=As;go_enter aoU,ntmps209
 go_wp2
 go_ret
 rfl
def aoX(ev aT:Value)(rs:List bB)(w:aO)(b:∃a n c,ev=.slice a n c)(d:hE w aT rs):
 Calls (ae prog false) 174 #[.agg #[ev,aT]] w λe _=>e=.returned (.int .i64 (rs.length:Int)):=by
 obtain⟨f,aK,ec,rfl⟩:=b;obtain⟨g,cap,rfl,-,-⟩:=d;go_enter aoV,ntmps174
 go_wp2
 go_ret
 rfl
def aoY:hX prog false f209=true:=by decide+kernel
def aoZ:hX prog false f174=true:=by decide+kernel
theorem ao0(h:∀b,M b->aX b)(hg:∀g,g<=prog.globals.size->M g)(a:ik (ed prog false) M dh w0){t:List aA}{v:Value}(j:m8 w0 v t)(hrel:ay (e6 M dh) v v)(h0:0<t.length){ST:Bool->eV.Lo->aV->Prop}(i:∀m l g w N c,(∀b,N b->c b)->ST m l ⟨g,w,N⟩->ST m l ⟨g,w,c⟩):
 i_ prog ST true 209 (#[.agg #[v]]++#[]) (je eV () aX w0 bs) (λu k=>u=.int .i64 (t[0].cp.length:Int)/\k=je eV () aX w0 bs):=
 Q_ ln rfl func209 aoY rfl AV h hg (.one (.pU (.one hrel))) a (λw f e n d=>aoW t v {e with tape:=d} (a8.mono rM (Cm e d) (av.a8.carry vW (n.carry (s9 a f)) hrel (av.a8.carry vW (s_ f a) hrel j))) h0) i
def ao1(k:∀b,M b->aX b)(hg:∀g,g<=prog.globals.size->M g)(d:ik (ed prog false) M dh w0){rs:List bB}{ev aT:Value}(q:∃a n c,ev=.slice a n c)(p:hE w0 aT rs)(t:ay (e6 M dh) ev ev)(f:ay (e6 M dh) aT aT){ST:Bool->eV.Lo->aV->Prop}(o:∀m l g w N e,(∀b,N b->e b)->ST m l ⟨g,w,N⟩->ST m l ⟨g,w,e⟩):
 i_ prog ST true 174 (#[.agg #[ev,aT]]++#[]) (je eV () aX w0 bs) (λu r=>u=.int .i64 (rs.length:Int)/\r=je eV () aX w0 bs):=
 Q_ ln rfl func174 aoZ rfl AV k hg (.one (.pU (mQ AA))) d (λw j i s h=>aoX ev aT rs {i with tape:=h} q (a8.mono r8 (Cm i h) (av.a8.carry rj (s.carry (s9 d j)) f (av.a8.carry rj (s_ j d) f p)))) o
end bZ
namespace bZ
open Conc ConcM RowKit av
def ao2(v:Value)(args:Array Value)(w:aO):(callMethod (.iface 116 (.agg #[v])) "Piece" args).run prog w=.ok (.enter 208 (#[.agg #[v]]++args)) w/\(callMethod (.iface 116 (.agg #[v])) "Piece" args).events prog w #[]=#[]:=⟨BA,BA⟩
def ao3(v:Value)(w:aO):(callMethod (.iface 116 (.agg #[v])) "Size" #[]).run prog w=.ok (.enter 209 (#[.agg #[v]]++#[])) w/\(callMethod (.iface 116 (.agg #[v])) "Size" #[]).events prog w #[]=#[]:=⟨BA,BA⟩
def ao4(v u:Value)(args:Array Value)(w:aO):(callMethod (.iface 107 (.agg #[v,u])) "Piece" args).run prog w=.ok (.enter 173 (#[.agg #[v,u]]++args)) w/\(callMethod (.iface 107 (.agg #[v,u])) "Piece" args).events prog w #[]=#[]:=⟨BA,BA⟩
def ao5(v u:Value)(w:aO):(callMethod (.iface 107 (.agg #[v,u])) "Size" #[]).run prog w=.ok (.enter 174 (#[.agg #[v,u]]++#[])) w/\(callMethod (.iface 107 (.agg #[v,u])) "Size" #[]).events prog w #[]=#[]:=⟨BA,BA⟩
end bZ
end Go.Proofs.YtncomcmfgmojkaaGreat
