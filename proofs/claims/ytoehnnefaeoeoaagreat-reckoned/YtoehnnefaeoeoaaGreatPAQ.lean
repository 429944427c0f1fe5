import Derived.Test.YtoehnnefaeoeoaaGreatPAK
import Derived.Test.YtoehnnefaeoeoaaGreatPAN
set_option linter.all false
set_option maxRecDepth 100000
set_option maxHeartbeats 16000000
namespace Go.Proofs.YtoehnnefaeoeoaaGreat
open Go.Proofs.Tryz
namespace cA
open RowKit Shelf az b_
@[simp] theorem aCD (a:Array Value) (w:World):Sem.run (ai prog true) (callFunc 30 a) w=.ok (.enter 30 a) w:=c8 (bl (upd:=true) func30 AS) AS a w
def CY(cs:Array Value)(l:List (Int×Int))(k:Nat):Prop:=∀j(h:j<l.length),j<k->cs[j*5]?=some (.int .i64 l[j].1)/\cs[j*5+1]?=some (.int .i64 l[j].2)/\cs[j*5+2]?=some (.slice none 0 0)/\cs[j*5+3]?=some (.slice none 0 0)/\cs[j*5+4]?=some (.slice none 0 0)
abbrev tR(cs:Array Value)(k:Nat)(a b c d e:Value):Array Value:=((((cs.setIfInBounds (k*5) a).setIfInBounds (k*5+1) b).setIfInBounds (k*5+2) c).setIfInBounds (k*5+3) d).setIfInBounds (k*5+4) e
variable {cs:Array Value}
theorem yr{k j i:Nat}(a b c d e:Value)(h:j≠k)(hi:i<5):(tR cs k a b c d e)[j*5+i]?=cs[j*5+i]?:=by simp only[tR,Array.getElem?_setIfInBounds];grind
theorem Yh{k:Nat}(a b c d e:Value)(h:k*5+4<cs.size):(tR cs k a b c d e)[k*5]?=some a/\(tR cs k a b c d e)[k*5+1]?=some b/\(tR cs k a b c d e)[k*5+2]?=some c/\(tR cs k a b c d e)[k*5+3]?=some d/\(tR cs k a b c d e)[k*5+4]?=some e:=by simp[tR,Array.getElem?_setIfInBounds];omega
theorem CY.step{cs:Array Value}{l:List (Int×Int)}{k:Nat}(h:CY cs l k)(c:k<l.length)(b:cs.size=l.length*5):CY (tR cs k (.int .i64 l[k].1) (.int .i64 l[k].2) (.slice none 0 0) (.slice none 0 0) (.slice none 0 0)) l (k+1):=by
 intro j a d;by_cases e:j=k
 ·grind[Yh]
 ·have:=h j a Ay;refine⟨(yr (i:=0) _ _ _ _ _ e AW).trans this.1,(yr _ _ _ _ _ e AW).trans this.2.1,(yr _ _ _ _ _ e AW).trans this.2.2.1,(yr _ _ _ _ _ e AW).trans this.2.2.2.1,(yr _ _ _ _ _ e AW).trans this.2.2.2.2⟩
theorem ajV(l:List (Int×Int))(v:Value)(w:World)(y:fh w v l)(z:l.length<=1000000):
 Calls (ai prog true) 30 #[v] w fun e w'=>∃b cs,e=.returned (.slice (some ⟨b,0,none⟩) l.length l.length)/\af w' b cs 48/\cs.size=l.length*5/\CY cs l l.length/\w.heap.size<=b/\Below w.heap.size w w':=by
 obtain⟨N,cap,rfl,hl,t⟩:=y;go_enter (bl (upd:=true) func30 AS),ntmps30
 go_wp2_with (at_make;refine LP aim _ rfl _ _ rfl _ _ l.length rfl rfl Ay Ay ?_;intro w1 bp q r s)
 have x:Hid (af w1 w.heap.size bp 48):=q;have C:Hid (Below w.heap.size w w1):=s;have F:Hid _:=r;clear q s r;go_loopw [11] (fun n W=>∃(k:Nat)(cs:Array Value),k<=l.length/\n=.int .i64 k/\af W w.heap.size cs 48/\cs.size=l.length*5/\CY cs l k/\Below w.heap.size w W)
  (fun i _=>l.length-(intOf i).toNat)
 case atStart=>exact⟨0,bp,Nat.zero_le _,rfl,x.out,F.out,fun j _ K=>AU,C.out⟩
 case round=>
  obtain⟨k,cs,J,rfl,p,m,o,u⟩:=hrel;have a:Hid (af wr w.heap.size cs 48):=p;have h:Hid (CY cs l k):=o;have f:Hid (Below w.heap.size w wr):=u;have c:Hid _:=m;clear p o u m;by_cases d:k<l.length
  ·obtain⟨b,off,rfl,dw,d1⟩:=t k d;simp at dw;have g:=bC.cW f.out;have B:=g _ _ _ dw;have M:=g _ _ _ d1;have L:=gX B;have E:w.heap.size<wr.heap.size:=a.out.lt;clear g dw d1 t;have I:(0:Int)<=(k:Int):=Ay;have H:(k:Int)<(l.length:Int):=Ay;have S:wr.cell? ⟨w.heap.size,k*5,none⟩=some (cs[k*5]'GX):=by rw[a.out.bT.1];simp
   have R:wr.cell? ⟨w.heap.size,k*5+1,none⟩=some (cs[k*5+1]'GX):=by rw[a.out.bT.1];simp
   have P:wr.cell? ⟨w.heap.size,k*5+2,none⟩=some (cs[k*5+2]'GX):=by rw[a.out.bT.1];simp
   have O:wr.cell? ⟨w.heap.size,k*5+3,none⟩=some (cs[k*5+3]'GX):=by rw[a.out.bT.1];simp
   have D:wr.cell? ⟨w.heap.size,k*5+4,none⟩=some (cs[k*5+4]'GX):=by rw[a.out.bT.1];simp
   have Q:=a.out.bT.2;go_wp2_with fail
   go_roundw
   case rel=>
    exact⟨k+1,_,Ay,by go_num,(((((a.out.set _ _).set _ _).set _ _).set _ _).set _ _).alloc _,by simp;exact c.out,h.out.step d c.out,(((((f.out.setCell Aa _).setCell Aa _).setCell Aa _).setCell Aa _).setCell Aa _).alloc Bu _⟩
   case measure=>simp[intOf];omega
  ·have A:k=l.length:=by omega
   go_wp2_with fail
   go_ret
   exact⟨_,_,rfl,a.out,c.out,by rw[<-A];exact h.out,Ay,f.out⟩
structure eT(Y:TypeId->Prop)(W W':World):Prop where
 size:W.heap.size<=W'.heap.size
 cells:∀(b:Nat)(c:Array Value)(e:TypeId)(z:Nat×Nat),W.heap[b]?=some (Obj.cells c e z)->Y e->W'.heap[b]?=some (Obj.cells c e z)
variable {Y:TypeId->Prop}
theorem eT.trans{A B C:World}(h:eT Y A B)(k:eT Y B C):eT Y A C:=⟨Nat.le_trans h.size k.size,fun b c e z x y=>k.cells b c e z (h.cells b c e z x y) y⟩
variable {W W':World}
theorem eT.sB(h:ko W W'):eT Y W W':=⟨h.size,fun b c e z x _=>h.cells b c e z x⟩
theorem eT.set{b:Nat}{T:TypeId}(h:af W b cs T)(a:¬Y T)(o:Nat)(v:Value):eT Y W (W.setCell ⟨b,o,none⟩ v):=
 ⟨Bp,fun k c e z x y=>by
  grind[af,Below.heap_setCell]⟩
theorem amx(h:Below W.heap.size W W'):KeepsOthers W W':=⟨h.size,fun _ _ x _=>(h.block _ (n9 x)).trans x⟩
def MY(Y:TypeId->Prop)(n:Nat)(P:Program)(g:Nat)(lb:Array Value)(Row:Nat->World->Value->Prop)(N n₀:Nat)(w0:World):Prop:=
 ∀(l:Nat)(S:Nat->Prop)(J:Nat->World->Prop)(W:World),Below n₀ w0 W->n₀<=W.heap.size->(∀b,S b->b<W.heap.size)->(∀t W W',J t W->eT (fun e=>¬Y e) W W'->(∀b,S b->W'.heap[b]?=W.heap[b]?)->J t W')->
  (∀t x W1,J t W1->t<N->Row t W1 x->n₀<=W1.heap.size->YieldAt Fence.wide (n-1) P l #[x] W1 fun e W'=>e=.returned (.bool true)/\J (t+1) W'/\Below n₀ W1 W'/\KeepsOthers W1 W'/\eT Y W1 W')->
  J 0 W->CallsIn Fence.wide n P g (#[.func (.yield l) #[] #[]]++lb) W fun e W'=>(∃v,e=.returned v)/\J N W'/\Below n₀ W W'
variable {lb:Array Value}{w:World}{assign body:Code}
theorem amy{n:Nat}{P:Program}{g:Operand}{p:Tmp}{Q:Exit->Act->World->Prop}{a:Act}{gf:Nat}{Row:Nat->World->Value->Prop}{N n₀:Nat}{w0:World}
 (V:a.eval g=.func (.func gf) #[] lb) (AJ:∀args w,(callFunc gf args).run P w=.ok (.enter gf args) w) (H:MY Y (n-1) P gf lb Row N n₀ w0) (R:Below n₀ w0 w) (C:n₀<=w.heap.size)
 (I:Nat->World->Prop) (i:∀t W W',I t W->eT (fun e=>¬Y e) W W'->I t W') (h0:I 0 w) (m:Nat->Value->Act->World->Prop) (QN:∀t x a' W W',m t x a' W->ko W W'->m t x a' W')
 (QO:∀(l t:Nat)(x:Value)(W:World)(K:Act->World->Prop),I t W->t<N->Row t W x->(∀a' W',Below W.heap.size W W'->m t x a' W'->K a' W')->
  assign.wpIn (Fence.wide.inRound l) (n-1-1) P (Exit.then K (fun _ _ _=>False)) {tmps:=a.tmps.setIfInBounds p x,defers:=[]} W)
 (CE:∀(l t:Nat)(x:Value)(a':Act)(W:World),I t W->t<N->m t x a' W->n₀<=W.heap.size->body.wpIn (Fence.wide.inRound l) (n-1-1) P (fun e _ W'=>e=.normal/\KeepsOthers W W'/\Below n₀ W W'/\eT Y W W'/\I (t+1) W') a' W)
 (hdone:∀W,I N W->Below n₀ w W->W.heap[w.heap.size]?=some (.deferred (some []))->Q .normal {a with defers:={target:=.collected w.heap.size,args:=#[]}::a.defers} W):
 (Code.rangeFunc g #[p] assign body).wpIn Fence.wide n P Q a w:=by
 refine wpIn_rangeFunc ?_;intro fn S;obtain⟨rec,E⟩:∃rec:LoopState->Loop,rec=fun st=>{state:=st,pending:=none,fn,tmps:=a.tmps,params:=#[p],assign,body,defers:=w.heap.size}:=⟨_,rfl⟩;obtain⟨c,QP⟩:∃c,(w.alloc (.deferred (some []))).alloc (.loop (rec .ready))=c:=⟨_,rfl⟩;have HP:c.heap[w.heap.size+1]?=some (.loop (rec .ready)):=by grind[World.alloc_heap_new,World.size_alloc]
 have QQ:c.heap[w.heap.size]?=some (.deferred (some [])):=by grind[Below.heap_alloc,World.alloc_heap_new]
 have A:Below w.heap.size w c:=by rw[<-QP];exact((Below.refl _ w).alloc Jr _).alloc Aa _
 refine⟨w.heap.size+1,[{target:=.collected w.heap.size,args:=#[]}],c,{target:=.fn (.func gf) lb,args:=#[.func (.yield (w.heap.size+1)) #[] #[]]},c,gf,#[.func (.yield (w.heap.size+1)) #[] #[]]++lb,c,?_,?_,fun _ _=>trivial,?_,fun h=>Dn,?_⟩
 ·simp_all[run_enterLoop_outer]
 ·simp only[resolve,V];simp[go_sem]
 ·grind[invoke]
 ·refine(H (w.heap.size+1) (fun b=>b=w.heap.size\/b=w.heap.size+1) (fun t W=>I t W/\W.heap[w.heap.size+1]?=some (.loop (rec .ready))/\W.heap[w.heap.size]?=some (.deferred (some []))) c (R.trans (A.mono C)) AU ?_ ?_ ?_ ⟨i _ _ _ h0 (.sB (ko.below A)),HP,QQ⟩).mono ?_
  ·grind
  ·grind
  ·rintro t x W ⟨hi,hl,s⟩ f cg L;have z:=run_yield (P:=P) (args:=#[x]) hl AU;rw[E]at z;refine⟨fn,_,assign,body,z,roundIn_of_wpIn S ?_⟩;clear z;have e1:(#[p].zip #[x]).foldl (fun tmps(u:Tmp×Value)=>tmps.setIfInBounds u.1 u.2) a.tmps=a.tmps.setIfInBounds p x:=Aa;refine Eq.mp (congrArg (fun T=>Code.wpIn (Fence.wide.inRound (w.heap.size+1)) (n-1-1) P assign _ {tmps:=T,defers:=[]} W) e1.symm) ?_;refine QO _ t x W _ hi f cg ?_;intro a' D d QS;have j:=(d.block _ (n9 hl)).trans hl;have Z:=(d.block _ (n9 s)).trans s;refine⟨_,run_beginRound j AU,?_⟩;have O:(D.putObj (w.heap.size+1) (.loop {rec .ready with state:=.busy})).heap[w.heap.size+1]?=some (.loop {rec .ready with state:=.busy}):=World.putObj_heap_same (n9 j);have M:(D.putObj (w.heap.size+1) (.loop {rec .ready with state:=.busy})).heap[w.heap.size]?=some (.deferred (some [])):=(World.putObj_heap_other Ay).trans Z;refine wpIn_mono (CE _ t x a' _ (i _ _ _ (i _ _ _ hi (.sB (ko.below d))) (.sB (ko.put j))) f (QN _ _ _ _ _ QS (.put j)) AU) ?_;rintro e cG J ⟨rfl,q,F,MZ,A0⟩;have r:=q.same _ _ O rfl;have QT:=q.same _ _ M rfl;have U:=run_endRound (P:=P) none r;have jN:(J.putObj (w.heap.size+1) (.loop (rec .ready))).heap[w.heap.size+1]?=some (.loop (rec .ready)):=World.putObj_heap_same (n9 r);refine⟨_,_,U,rfl,⟨i _ _ _ A0 (.sB (ko.put r)),?_,(World.putObj_heap_other Ay).trans QT⟩,?_,⟨?_,fun k o x y=>?_⟩,?_⟩
   ·grind
   ·exact((d.mono L).trans ((zD _ Ay).trans F)).trans (zD _ Ay)
   ·have:=d.size;have:=q.size;simp at this⊢;omega
   ·by_cases B:k=w.heap.size+1
    ·grind
    ·exact(World.putObj_heap_other B).trans (q.same _ _ ((World.putObj_heap_other B).trans ((d.block _ (n9 x)).trans x)) y)
   ·exact(((eT.sB (ko.below d)).trans (.sB (ko.put j))).trans MZ).trans (.sB (ko.put r))
  ·rintro e W2 ⟨⟨v,rfl⟩,⟨hi,hl,s⟩,X⟩;refine⟨none,_,by have:=run_endLoop (P:=P) hl AU;rw[E]at this;exact this,hdone _ (i _ _ _ hi (.sB (ko.put hl))) ?_ ((World.putObj_heap_other Ay).trans s)⟩;exact((A.mono C).trans X).trans (zD _ Ay)
theorem amz{m a l b:Nat}{P:Program}{f:FuncId}{tmps:Array Value}{R:Ending->World->Prop}(h:RoundIn Fence.wide m P l f tmps assign body w R):RoundIn (Fence.wide.inRound b) a P l f tmps assign body w R:=⟨h.1,fun c cs _=>h.2 c cs (fun d hd=>by simp[Fence.wide]at hd)⟩
section
theorem func28:(ai prog true).funcs[(28:Nat)]?=some Tryz.f28:=bl (upd:=true) Tryz.func28 AS
attribute [local go_sem] Oper.semAt_some
def tX(e:TypeId):Prop:=e=3\/e=92
theorem Dw(h:ko W W'){b o:Nat}{v:Value}(a:W.cell? ⟨b,o,none⟩=some v):W'.cell? ⟨b,o,none⟩=some v:=by
 have:∃c e z,W.heap[b]?=some (.cells c e z)/\c[o]?=some v:=by unfold World.cell? at a;grind
 obtain⟨c,e,z,d,f⟩:=this;have:=h.cells _ _ _ _ d;grind[World.cell?]
theorem amA{n:Nat}{Row:Nat->World->Value->Prop}{N:Nat}{gf:Nat}(P j o:Nat)(w0:World)(uU:∀n,FM n (ai prog true) gf lb Row N w0.heap.size w0)(AJ:∀args w,(callFunc gf args).run (ai prog true) w=.ok (.enter gf args) w)
 (U:∀t W x,Row t W x->∃p pl pc q c a,x=.agg #[.slice p pl pc,.slice q c a]) (cg:∀t W W' x,ko W W'->Row t W x->Row t W' x) (cj:N<=1000000)
 (m:w0.cell? ⟨P,0,none⟩=some (.func (.func gf) #[] lb)) (i:w0.cell? ⟨j,0,none⟩=some (.int .i64 0)) (k:w0.cell? ⟨o,0,none⟩=some (.int .i64 9223372036854775807)):
 MY tX n (ai prog true) 28 #[.pointer (some ⟨P,0,none⟩),.pointer (some ⟨j,0,none⟩),.pointer (some ⟨o,0,none⟩)] Row N w0.heap.size w0:=by
 intro l S J W E H hS u Z h0;have r:=bC.cW E;have y:=r _ _ _ m;have v:=r _ _ _ i;have F:=r _ _ _ k;have Dz:=gX y;refine callsIn_of_wp_marks func28 rfl trivial ?_;simp[Array.replicate_succ];gi_wp2
 have f:Below W.heap.size W ((W.alloc (.cells #[.func (.yield l) #[] #[]] 92)).alloc (.cells #[.int .i64 0] 3)):=((Below.refl _ W).alloc Jr _).alloc Aa _;refine X3 (n:=n) (gf:=gf) (lb:=lb) (w0:=w0) (n₀:=w0.heap.size) (N:=N) (Row:=Row) rfl AJ (uU _) (E.trans (f.mono H)) Bu S (fun b d=>by have:=hS b d;simp;omega)
  (fun t V=>J t V/\af V W.heap.size #[.func (.yield l) #[] #[]] 92/\af V (W.heap.size+1) #[.int .i64 t] 3/\V.cell? ⟨j,0,none⟩=some (.int .i64 0)/\V.cell? ⟨o,0,none⟩=some (.int .i64 9223372036854775807))
  (fun t V wv h g d=>⟨u _ _ _ h.1 (.sB g) d,g.cells _ _ _ _ h.2.1,g.cells _ _ _ _ h.2.2.1,Dw g h.2.2.2.1,Dw g h.2.2.2.2⟩)
  ⟨u _ _ _ h0 (.sB (.below f)) (fun b d=>f.block b (hS b d)),(af.new W _ _).alloc _,by have:=af.new (W.alloc (.cells #[.func (.yield l) #[] #[]] 92)) #[.int .i64 0] 3;simp_all,Dw (.below f) v,Dw (.below f) F⟩
  (fun t x a' V=>∃s p pl pc q c a,af V s #[.slice p pl pc,.slice q c a] 78/\x=.agg #[.slice p pl pc,.slice q c a]/\Row t V x/\∃z,a'={tmps:=#[.func (.yield l) #[] #[],.pointer (some ⟨P,0,none⟩),.pointer (some ⟨j,0,none⟩),.pointer (some ⟨o,0,none⟩),.pointer (some ⟨W.heap.size,0,none⟩),.pointer (some ⟨W.heap.size+1,0,none⟩),.pointer (some ⟨s,0,none⟩),.func (.func gf) #[] lb,z,undef,undef,undef,undef,undef,undef,undef,undef,undef,undef,undef,undef,undef,undef,undef,undef],defers:=[]})
  (fun t x a' V wv h g _=>by
   obtain⟨s,p,pl,pc,q,c,a,m,i,k,O⟩:=h;exact⟨s,p,pl,pc,q,c,a,g.cells _ _ _ _ m,i,AU,O⟩)
  ?assign ?body ?done
 case assign=>
  rintro aW t x V K- -C hK;obtain⟨p,pl,pc,q,c,a,rfl⟩:=U _ _ _ C;clear y v F m i k E r h0;gi_wp2
  have gK:Below V.heap.size V (V.alloc (.cells #[.slice p pl pc,.slice q c a] 78)):=(Below.refl _ V).alloc Jr _;exact hK _ _ gK ⟨V.heap.size,p,pl,pc,q,c,a,af.new V _ _,rfl,cg _ _ _ _ (.below gK) C,_,rfl⟩
 case body=>
  rintro aW t x a' V ⟨D,L,I,T,M0⟩ M ⟨s,p,pl,pc,q,c,a,ca,rfl,C,z,rfl⟩ nv;obtain⟨fn,tmps,assign,body,hy,bM⟩:=Z t _ _ D M C nv;obtain⟨db,dA,cY⟩:=ca.all;obtain⟨jv,lR,mn⟩:=L.all;obtain⟨dW,er,fx⟩:=I.all;have i8:=gX i;have R2:=gX k;have yu:Hid _:=@u;have Iw:Hid _:=hS;have O:Hid _:=L;have bn:Hid _:=I;have I3:Hid _:=T;have M1:Hid _:=M0;have Zt:Hid _:=i8;have R:Hid _:=R2;have Y:Hid _:=H;have R3:¬(9223372036854775807:Int)<=(t:Int):=Ay;have R4:(0:Int)<=(t:Int):=Ay;have Gb:Hid _:=f;clear y v F m i k E r h0 Z u hS L I D i8 R2 f H;gi_wp2_with (refine⟨fun h=>Dn,(amz bM).mono ?_⟩;rintro e A ⟨rfl,C0,B,Q,DC⟩;have c4:af A W.heap.size _ _:=DC.cells _ _ _ _ O.out K0;have X:af A (W.heap.size+1) _ _:=DC.cells _ _ _ _ bn.out Jt;obtain⟨u1,u2,u3⟩:=X.all)
  have bE:=B.block;have e1:(A.setCell ⟨W.heap.size+1,0,none⟩ (.int .i64 (t+1))).cell? ⟨j,0,none⟩=V.cell? ⟨j,0,none⟩:=World.cell?_of_block ((Below.heap_setCell _ _ _ _ (by have:=Zt.out;have:=Y.out;grind)).trans (B.block _ Zt.out));have e2:(A.setCell ⟨W.heap.size+1,0,none⟩ (.int .i64 (t+1))).cell? ⟨o,0,none⟩=V.cell? ⟨o,0,none⟩:=World.cell?_of_block ((Below.heap_setCell _ _ _ _ AU).trans (B.block _ R.out));refine⟨Q.trans (KeepsOthers.setCell _ _ _),B.setCell (by have:=Y.out;grind) _,yu.out _ _ _ C0 (eT.set X (fun h=>h Jt) _ _) (fun b d=>Below.heap_setCell _ _ _ _ (by have:=Iw.out b d;grind)),c4.fu Aa _,?_,e1.trans I3.out,e2.trans M1.out⟩;have:=X.set 0 (.int .i64 (t+1));grind
 case done=>
  rintro V ⟨D,-⟩ ao hK;clear y v F m i k;gi_wp2
  refine⟨Aa,.inl ⟨_,_,rfl,run_takeDeferred hK,?_⟩⟩;refine⟨.tuple #[],by simp[results,results28,go_sem],⟨_,rfl⟩,u _ _ _ D (.sB (L6 hK)) (fun b d=>World.putObj_heap_other (by have:=hS b d;simp;omega)),((f.mono H).trans ao).trans (zD _ Bu)⟩
end
end cA
namespace bD
open Conc ConcM RowKit az bu cZ dD
variable {j8:Code}
section
variable {O:jW}
structure Bx(n0:Nat)(ρ:ay)(w w':World):Prop where
 cells:vg ρ w w'
 types:∀a b c e z,ρ.rel a b->w.heap[a]?=some (.cells c e z)->∃c',w'.heap[b]?=some (.cells c' e z)/\c'.size=c.size
 new:∀a b,ρ.rel a b->n0<=a->n0<=b
 inj:∀a a' b,ρ.rel a b->ρ.rel a' b->a=a'
def gR(n0:Nat)(R:World->Value->Prop):Prop:=∀ρ w w' v v',Bx n0 ρ w w'->aA ρ v v'->R w v->R w' v'
def vl(n0:Nat)(I:Act->World->Prop):Prop:=∀ρ a a' w w',Bx n0 ρ w w'->a3 ρ a.tmps a'.tmps->I a w->I a' w'
def d0(N:Nat)(fs:List (Nat×(World->Value->Prop)))(a:Act)(w:World):Prop:=a.tmps.size=N/\∀p∈fs,∃v,a.tmps[p.1]?=some v/\p.2 w v
theorem j_{n0 N:Nat}{fs:List (Nat×(World->Value->Prop))}(h:∀p∈fs,gR n0 p.2):vl n0 (d0 N fs):=by rintro ρ a a' w w' g b ⟨e,f⟩;refine⟨by rw[<-b.size];exact e,fun p c=>?_⟩;obtain⟨v,l,k⟩:=f p c;obtain⟨d,j,i⟩:=b.some l;exact⟨d,j,h p c _ _ _ _ _ g i k⟩
section
variable {P:Program} {Post:Value->World->Prop} {n:Nat} {Shun:Loc->Prop} {M:Nat->Prop} {w:World}
theorem Behind.vm{n0:Nat}{ρ:ay}{g w':World}(h:Behind O P M Shun w ρ g w')(s:n0<=w.heap.size):Bx n0 ρ g w':=by
 refine⟨h.cw,fun a b c e z r i=>?_,fun a b r hl=>?_,(by obtain⟨S,d⟩:=h.rel;exact d.inj)⟩
 ·obtain⟨S,d⟩:=h.rel;obtain⟨o,o',f,n,m⟩:=d.obj a b r;rw[i]at f;cases f;cases m with|@cells _ q _ _ p k j=>have l:p=z:=j.2 rfl;subst l;exact⟨_,n,k.size.symm⟩
 ·rcases h.old a b r with⟨e,-⟩|h
  ·grind
  ·omega
theorem Home.vm{n0:Nat}(g:Home O P M Shun w){f:World}(d:gW (df P) M (ig M) w f)(T:Nat->Question->Nat):Bx n0 (cB M) w {f with tape:=T}:=by refine⟨fun a a' v r h=>d.cw g.cl a a' v r h,fun a b c e z r i=>?_,fun a b r hl=>r.1▸hl,fun a a' b r k=>r.1.trans k.1.symm⟩;obtain⟨rfl,j⟩:=r;obtain⟨l,m,n⟩:=d.cells g.cl j i;grind
theorem fm.vm{n0:Nat}{w':World}(h:fm M w w')(i:Home O P M Shun w):Bx n0 (cB M) w w':=by refine⟨h.cw i,fun a b c e z r d=>?_,fun a b r hl=>r.1▸hl,fun a a' b r g=>r.1.trans g.1.symm⟩;obtain⟨rfl,f⟩:=r;exact⟨_,h _ _ _ _ f d,rfl⟩
theorem Behind.anG{ρ:ay}{l j w':World}(h:Behind O P M Shun w ρ j w')(m:Home O P M Shun w)(C:gW (df P) M (ig M) w l){N:Nat->Prop}(cj:∀b,N b->M b)(q:∀b c e z,N b->l.heap[b]?=some (.cells c e z)->j.heap[b]?=some (.cells c e z)):fm N w w':=by
 intro b c e fr a g;obtain⟨p,t,x⟩:=C.cells m.cl (cj b a) g;have y:=x (cj b a);subst y;have A:=q b c e _ a t;obtain⟨S,i⟩:=h.rel;obtain⟨o,o',f,k,v⟩:=i.obj b b (h.le.1 b b ⟨rfl,cj b a⟩);rw[A]at f;cases f;cases v with
 |@cells _ E _ _ B s r=>
  have u:B=p:=r.2 rfl;subst u;obtain⟨D,q1,d⟩:=m.cl b (cj b a);rw[g]at q1;cases q1;rcases d with d|d
  ·cases d with|cells _ n _=>rw[Nh i.one s (n.mono h.le)]at k;exact k
  ·exact d.elim
variable {f:FuncId} {a:Act} {k k':List Item} {cs:List Frame} {n0:Nat}
structure Held(O:jW)(P:Program)(bt:Nat->Prop)(w0:World)(n0:Nat)(a:Act)(M:Nat->Prop)(w:World)(Shun:Loc->Prop):Prop where
 dH:Home O P M Shun w
 sub:∀b,bt b->M b
 gA:pE w0 w
 keep:fm (fun b=>bt b/\b<n0) w0 w
 all:a3 (cB M) a.tmps a.tmps
 defers:a.defers=[]
 size:n0<=w.heap.size
theorem Held.start(d:Home O P M Shun w)(c:n0<=w.heap.size)(b:a3 (cB M) a.tmps a.tmps)(hd:a.defers=[]):Held O P M w n0 a M w Shun:=⟨d,fun _ h=>h,.refl _,.refl _ _,b,hd,c⟩
variable {bt:Nat->Prop} {w0:World}
theorem Held.at(h:Held O P bt w0 n0 a M w Shun)(k:Nat):Held O P bt w0 n0 a M (w.at k) Shun:=
 ⟨(h.dH.at _),h.sub,⟨h.gA.size,h.gA.later,h.gA.output,h.gA.tape⟩,h.keep,h.all,h.defers,h.size⟩
theorem Held.next(h:Held O P bt w0 n0 a M w Shun){ρ:ay}{f e w':World}{T:Nat->Question->Nat}(k:gW (df P) M (ig M) w f)(d:Behind O P M Shun w ρ e w')(c:Below n0 {f with tape:=T} e){a':Act}(i:a3 (cB (l3 ρ)) a'.tmps a'.tmps)(hd:a'.defers=[]):Held O P bt w0 n0 a' (l3 ρ) w' Shun:=
 ⟨d.dH,fun b c=>d.mem (h.sub b c),h.gA.trans d.gA,h.keep.trans (M':=fun b=>M b/\b<n0) (fun b c=>⟨h.sub b c.1,c.2⟩) (d.anG h.dH k AU fun b _ _ _ j g=>(c.block b j.2).trans g),i,hd,Nat.le_trans h.size d.gA.size⟩
theorem Nl(q:(df P).Good)(o:mz P f)(H:Held O P bt w0 n0 a M w Shun)(m:k.all (kv P)=true)(s:k'.all (kv P)=true){I J:Act->World->Prop}(p:vl n0 I)(l:vl n0 J)(h0:I a w)
 (hrun:∀W,n0<=W.heap.size->I a W->c2 (ai P true) k k' (fun a1 w1=>a1.defers=[]/\J a1 w1/\Below n0 W w1) a W)
 (r:∀a' M' w',Held O P bt w0 n0 a' M' w' Shun->J a' w'->cp P Post n Shun 0 (bb ((base f).at a' k') cs) w'):
 cp P Post n Shun 0 (bb ((base f).at a k) cs) w:=by
 refine Ji q H.dH o H.all H.defers m s (Q:=fun c a1 w1=>J a1 w1/\∃T,Below n0 {c with tape:=T} w1) (fun c d T b cs=>?_) ?_
 ·obtain⟨a1,w1,⟨j,i,e⟩,h⟩:=hrun {c with tape:=T} GK (p _ _ _ _ _ (H.dH.vm d T) H.all h0) b cs;grind
 ·rintro ρ c a1 w1 a' w' d ⟨j,T,i⟩ e h g;exact r a' (l3 ρ) w' (H.next d g i (g.all e) h) (l _ _ _ _ _ (g.vm H.size) e j)
theorem Sk(t:(df P).Good){fn:Func}(p:P.funcs[f]?=some fn)(m:i6 P true fn=true)(r:fn.body=some j8)(H:Held O P bt w0 n0 a M w Shun)(o:k.all (kv P)=true){h:FuncId}{a₁:Act}{aG:Array Oper}{i₁:Nat}{aP:List Nat}{k₁:List Item}{cs₁:List Frame}(q:yM P bt h a₁ aG i₁ k₁){I:Act->World->Prop}{hJ:World->Value->Prop}(s:vl n0 I)(y:gR n0 hJ)(h0:I a w)
 (hrun:∀W,n0<=W.heap.size->I a W->xQ (ai P true) fn k (fun v w1=>hJ w1 v/\Below n0 W w1) a W)
 (x:∀u M' w',Home O P M' Shun w'->(∀b,bt b->M' b)->aA (cB M') u u->pE w0 w'->fm (fun b=>bt b/\b<n0) w0 w'->hJ w' u->cp P Post n Shun 0 (bb ((base h).at (a₁.put ((aG[i₁]?).bind (·.dst)) u) (.inRegion aG aP::k₁)) cs₁) w'):
 cp P Post n Shun 0 (bb ((base f).at a k) ((base h).at a₁ (.inRegion aG (i₁::aP)::k₁)::cs₁)) w:=by
 refine Nk t H.dH p m r H.all H.defers o (q.mono H.sub) (hJ:=fun c v w1=>hJ w1 v/\∃T,Below n0 {c with tape:=T} w1) (fun c d T f cs z=>?_) ?_
 ·obtain⟨v,w1,fr,⟨l,j⟩,g,A⟩:=hrun {c with tape:=T} GK (s _ _ _ _ _ (H.dH.vm d T) H.all h0) f cs z;grind
 ·rintro ρ c v B u w' d ⟨l,T,j⟩ g i;have e:=H.next d i j (a':=⟨#[],[]⟩) ⟨rfl,AU⟩ rfl;exact x u (l3 ρ) w' e.dH e.sub (i.val g) e.gA e.keep (y _ _ _ _ _ (i.vm H.size) g l)
variable {ops:Array Oper} {i:Nat} {rest:List Nat} {o:Oper}
theorem Sl{d:Nat}{g:FuncId}{m:Func}{args:Array Operand}{ats:Array TypeId}(j:o.op=.call {callee:=.value (.func g),args,argTypes:=ats})(A:P.funcs[g]?=some m)(s:(m.name== "runtime.NumGoroutine")=false)(c:m.body=some j8)
 (N:n+16*d<=200) (B:mz P f) (H:Held O P bt w0 n0 a M w Shun) (l:(Item.inRegion ops []::k).all (kv P)=true) (z:ops[i]?=some o) (y:o.guard=none) {dt:Tmp} (t:o.dst=some dt/\dt<a.tmps.size) {I J:Act->World->Prop} {oo:World->Value->Prop} (C:vl n0 I) (h0:I a w)
 (v:∀k,qH O P Post g (args.map a.eval) M (w.at k) d (fun u _ w'=>oo w' u/\fm M w w'))
 (x:∀u w',I a w'->oo w' u->J (a.put (some dt) u) w')
 (K:∀a' M' w' e h,e<=n+16*d->Held O P bt w0 n0 a' M' w' h->J a' w'->cp P Post e h 0 (bb ((base f).at a' (.inRegion ops rest::k)) cs) w'):
 cp P Post n Shun 0 (bb ((base f).at a (.inRegion ops (i::rest)::k)) cs) w:=by
 simp only[List.all_cons,Bool.and_eq_true]at l;refine Gn j A s c rfl N H.dH ⟨B,.inl H.all,H.defers,l.1,l.2,AU⟩ z (fJ y _) v ?_;rintro u M' w' e h F E p D r ⟨L,q⟩;rw[t.1];refine K _ M' w' e h F ⟨E,fun b c=>p b (H.sub b c),H.gA.trans r,H.keep.trans (fun b c=>H.sub b c.1) q,?_,by rw[put_defers];exact H.defers,Nat.le_trans H.size r.size⟩ (x u w' (C _ _ _ _ _ (q.vm H.dH) H.all h0) L);exact(H.all.mono (sG p)).set D _
theorem anH(S:(df P).Good)(X:P.follows .mixedOrders=true)(y:mz P f)(l:(Item.inRegion ops []::k).all (kv P)=true)(g:Nat){j:Oper}{d:Nat}{gf:FuncId}{r:Func}{args:Array Operand}{ats:Array TypeId}(C:ops[g]?=some j)(p:j.op=.call {callee:=.value (.func gf),args,argTypes:=ats})(V:P.funcs[gf]?=some r)(D:(r.name== "runtime.NumGoroutine")=false)(Q:r.body=some j8)(L:j.guard=none)
 (aj:n+16*d<=200) {I:Array Bool->Act->World->Prop} (m:∀aq,vl n0 (I aq)) {dt:Tmp} (Y:j.dst=some dt) (T:∀aq a w,I aq a w->dt<a.tmps.size) {oo:World->Value->Prop} (hsz:∀aq a w,I aq a w->aq.size=ops.size)
 (H:Held O P bt w0 n0 a M w Shun) (h0:I (Array.replicate ops.size false) a w)
 (hstep:∀aq a W i o,I aq a W->a.defers=[]->n0<=W.heap.size->i≠g->aq.getD i true=false->ops[i]?=some o->(∀e∈o.after,Region.binds .any e=true->aq.getD e.on false=true)->wpOps (ai P true) ops (ii fun a1 w1=>a1.defers=[]/\I (aq.setIfInBounds i true) a1 w1/\Below n0 W w1) [i] a W)
 (F:∀aq a M w Shun,Held O P bt w0 n0 a M w Shun->I aq a w->aq.getD g false=false->(∀e∈j.after,Region.binds .any e=true->aq.getD e.on false=true)->qH O P Post gf (args.map a.eval) M w d (fun u _ w'=>oo w' u/\fm M w w'))
 (E:∀aq a w u,I aq a w->aq.getD g false=false->(∀e∈j.after,Region.binds .any e=true->aq.getD e.on false=true)->oo w u->I (aq.setIfInBounds g true) (a.put (some dt) u) w)
 (jN:∀aq a M' w' c B,I aq a w'->Region.ready .any ops aq=[]->c<=n+16*d->Held O P bt w0 n0 a M' w' B->cp P Post c B 0 (bb ((base f).at a (.inRegion ops []::k)) cs) w')
 {id:Nat}:cp P Post n Shun 0 (bb ((base f).at a (.code (.region id ops true)::k)) cs) w:=by
 have da:∀aq a M w Shun k,Held O P bt w0 n0 a M w Shun->I aq a w->I aq a (w.at k):=fun aq a M w Shun k H h=>m aq _ _ _ _ _ ((show fm M w (w.at k)from fun _ _ _ _ _ x=>x).vm H.dH) H.all h;refine Ni X (I:=fun aq a M w c Shun=>Held O P bt w0 n0 a M w Shun/\I aq a w/\c<=n+16*d/\(aq.getD g false=false->c<=n)) (fun aq a M w c Shun k h=>⟨h.1.at k,AU,h.2.2⟩) ?_ AU ⟨H,h0,Nat.le_add_right _ _,fun _=>Nat.le_refl _⟩;intro aq a M w c Shun i o rest ⟨H,hi,pr,Z⟩ N q s K;have lX:i<aq.size:=by grind
 by_cases t:i=g
 ·subst t;rw[C]at q;cases q;have v:aq.getD i false=false:=by grind
  refine Sl p V D Q AU y H l C L AU (I:=I aq) (J:=I (aq.setIfInBounds i true)) (oo:=oo) (m aq) hi (fun k=>F aq a M (w.at k) Shun (H.at k) AU v s) (fun u w' A z=>E aq a w' u A v s z) ?_;grind[pG]
 ·refine Nl S y H (k:=.inRegion ops (i::rest)::k) (k':=.inRegion ops rest::k) IM IM (I:=I aq) (J:=I (aq.setIfInBounds i true)) (m aq) (m _) hi (fun W R U b cs=>?_) ?_
  ·obtain⟨a1,w1,A,z⟩:=Nj rest [i] a W (hstep aq a W i o U H.defers R t N q s) b k cs;grind
  grind[pG]
end
end
end bD
namespace yR
open Conc RowKit Conc.Lib ConcR.Gen ConcM bu cZ ba
section
section
variable {Shun:Loc->Prop} {Stop:Nat->Goroutine->World->Prop} {st:Nat}
variable {b₁:Frame} {a₁:Act} {aG:Array Oper} {i₁:Nat} {aP:List Nat} {k₁:List Item} {cs₁:List Frame}
theorem apA{w:World}{c:Frame}{cs:List Frame}(o:c.mode=.returning)(f:w.cell? ⟨st,0,none⟩=some (.int .i32 1))(h:w.frozen? ⟨st,0,none⟩=false)(m:Shun (.cell ⟨st,0,none⟩))(i:st<w.heap.size)
 (j:eU prog Shun Stop 0 (Conc.G c cs) (w.setCell ⟨st,0,none⟩ (.int .i32 0))):
 eU prog Shun Stop 0 (Conc.G ((baseD 90).at ⟨#[.pointer (some ⟨st,0,none⟩),undef,undef,undef,undef,undef],[]⟩ [.code (f90.body.getD .skip)]) (c::cs)) w:=by
 have hF:=atRel_refl w;simp[f90];refine my (R:=AtRel) KO 300 _ _ ?_;repeat w_go dU
 u_call func114 aaO f114 dU hF
 repeat w_go dU
 refine Goes.stop (fun d b=>?_);replace hF:=dU hF b;obtain⟨a,rfl⟩:=hF;clear b;refine pD rfl (w1:=w.at a) (fun k=>BK rfl rfl Bc rfl rfl f aaP) Aa Jr ?_;show eU prog Shun Stop 0 _ _;have hF:AtRel w (w.at a):=⟨a,rfl⟩;refine my (R:=AtRel) KO 300 _ _ ?_;walk_nrm
 repeat w_go dU
 refine Goes.stop (fun d b=>?_);replace hF:=dU hF b;obtain⟨a,rfl⟩:=hF;clear b;refine pD rfl (w1:=w.at a) (fun k=>BJ rfl rfl Bc rfl rfl f) Aa Jr ?_;show eU prog Shun Stop 0 _ _;have hF:AtRel w (w.at a):=⟨a,rfl⟩;refine my (R:=AtRel) KO 300 _ _ ?_;walk_nrm
 repeat w_go dU
 refine Goes.stop (fun d b=>?_);replace hF:=dU hF b;obtain⟨a,rfl⟩:=hF;clear b;refine pD rfl (w1:=w.at a) (es:=#[⟨.mark (.releaseMerge ⟨st,0,none⟩),false,true⟩]) (fun k=>stepG_markAt .releaseMerge Aa rfl rfl Bc rfl func69 SN SO SP SQ CX) (by simp[apy]) Jr ?_;show eU prog Shun Stop 0 _ _;have hF:AtRel w (w.at a):=⟨a,rfl⟩;refine my (R:=AtRel) KO 300 _ _ ?_;walk_nrm
 repeat w_go dU
 refine Goes.stop (fun d b=>?_);replace hF:=dU hF b;obtain⟨a,rfl⟩:=hF;clear b;refine pD rfl (w1:=w.at a) (fun k=>stepG_mark0 .disable Aa rfl rfl Bc rfl func70 D1 D2 D3 D4) (by simp[aa3]) Jr ?_;show eU prog Shun Stop 1 _ _;have hF:AtRel w (w.at a):=⟨a,rfl⟩;refine my (R:=AtRel) KO 300 _ _ ?_;walk_nrm
 repeat w_go dU
 refine Goes.stop (fun d b=>?_);replace hF:=dU hF b;obtain⟨g,rfl⟩:=hF;clear b;refine pD rfl (w1:=(w.at g).setCell ⟨st,0,none⟩ (.int .i32 (IntKind.wrap .i32 (1+ -1)))) (fun k=>stepG_add_atomic rfl rfl Bc rfl func127 D5 D6 D7 .i32 D8 rfl rfl f h) ?_ (Nat.le_of_eq (ab.oh _ _ _).symm) ?_
 ·rw[ab.oh];intro e l;simp at l;rcases l with rfl|rfl<;>exact ZC m i _
 rw[show IntKind.wrap .i32 (1+ -1)=0 from AW];generalize n:w.setCell ⟨st,0,none⟩ (.int .i32 0)=w2 at j;have hF:AtRel w2 ((w.at g).setCell ⟨st,0,none⟩ (.int .i32 0)):=⟨g,by rw[<-n];rfl⟩;clear f h i;generalize(w.at g).setCell ⟨st,0,none⟩ (.int .i32 0)=w3 at hF⊢;show eU prog Shun Stop 1 _ _;refine my (R:=AtRel) KO 300 _ _ ?_;walk_nrm
 repeat w_go dU
 refine Goes.stop (fun d b=>?_);replace hF:=dU hF b;obtain⟨a,rfl⟩:=hF;clear b;refine pD rfl (w1:=w2.at a) (fun k=>stepG_mark0 .enable Aa rfl rfl Bc rfl func71 oq ot ou ov) (by simp[aa4]) Jr ?_;show eU prog Shun Stop 0 _ _;have hF:AtRel w2 (w2.at a):=⟨a,rfl⟩;refine my (R:=AtRel) KO 300 _ _ ?_;walk_nrm
 repeat w_go dU
 u_leave0 func114 dU hF
 repeat w_go dU
 u_in dU hF
 refine Gz rfl rfl func90 rfl o ⟨FQ,?_⟩;refine Goes.stop (fun d b=>?_);replace hF:=dU hF b;obtain⟨p,rfl⟩:=hF;exact j.at p
end
end
end yR
namespace jn
open Conc RowKit Conc.Lib ConcR.Gen ConcM az bu ab gb iJ gF
theorem aqX:(f111.name== "runtime.NumGoroutine")=false:=by kernel_rfl
theorem aqY:(f110.name== "runtime.NumGoroutine")=false:=by kernel_rfl
theorem aqZ:(f108.name== "runtime.NumGoroutine")=false:=by kernel_rfl
section
variable {c:dT} {Stop:Bool->ab.av aV->a6->Prop} {fr aL:Nat->Nat} {hH iN:Value} {k9:FuncId} {nE c7:Nat->Value->(Nat->Prop)->World->Prop}
theorem aq0{de:World}(J:xI c de prog Stop 111 hH k9 iN fr aL nE c7){f T:Nat}{q:List (Nat×Value)}{M:Nat->Prop}{w0:World}(O:T<c.N)(P:sz c de w0)
 (L:∀s a9 M' w1,aZ (ah (aE c)) M' w1 [] w1->jS prog Stop false 110 #[.pointer (some ⟨c.st,0,none⟩),.agg #[.int .i64 (T:Int),.int .i64 (fr T:Int),.int .i64 (aL T:Int)],.slice s (c.rows T) a9] (gn c ⟨.idle,false,0,f+16,.aR (.has T) q⟩ M' w1) (fun u K=>u=.tuple #[]/\K=gn c ⟨.idle,false,0,f,.aR .free ((T,.slice s (c.rows T) a9)::q)⟩ M' w1)):
 jS prog Stop false 83 #[.pointer (some ⟨c.st,0,none⟩),hH,.agg #[.int .i64 (T:Int),.int .i64 (fr T:Int),.int .i64 (aL T:Int)]] (gn c ⟨.idle,false,0,f+16,.aR (.has T) q⟩ M w0) (fun u K=>u=.tuple #[]/\∃v M' w1,iM (ah (aE c)) M w0 M' w1/\c7 T v M' w1/\K=gn c ⟨.idle,false,0,f,.aR .free ((T,v)::q)⟩ M' w1):=by
 intro b₁ a₁ aG i₁ aP k₁ cs₁ hK w γ hS;have hF:aZ (ah (aE c)) M w0 [] w:=hS;clear hS;have N:=(aN (bR c)).og;have R:prog.follows .mixedOrders=true:=BB;rw[enter_at _ func83 rfl];unfold gn;rw[<-jo (M:=M)];refine a5 (aN (bR c)) Js 200 _ _ γ Jt ?_;walk_nrmf f83
 repeat w_go aZ.on
 refine g6 rfl hF fun y l x o m Q E z hF=>?_;refine tU AU N rfl hF (stepG_value (v:=.pointer (some ⟨m.heap.size,0,none⟩)) (w':=m.alloc (Obj.cells #[.pointer (some ⟨c.st,0,none⟩)] 124)) rfl rfl Bc BD) rfl Bb (fun B=>?_);clear hF;have hF:=B;clear B z E o l;generalize m.heap.size=r at hF⊢;generalize m.alloc (Obj.cells #[.pointer (some ⟨c.st,0,none⟩)] 124)=w3 at hF⊢;refine a5 (aN (bR c)) Js 200 _ _ _ Jt ?_;walk_nrm
 repeat w_go aZ.on
 refine g6 rfl hF fun y l x o m Q E z hF=>?_;refine tU AU N rfl hF (stepG_value (v:=.pointer (some ⟨m.heap.size,0,none⟩)) (w':=m.alloc (Obj.cells #[.int .i64 (T:Int),.int .i64 (fr T:Int),.int .i64 (aL T:Int)] 187)) rfl rfl Bc BD) rfl Bb (fun B=>?_);clear hF;have hF:=B;clear B z E o l;generalize m.heap.size=aO at hF⊢;generalize m.alloc (Obj.cells #[.int .i64 (T:Int),.int .i64 (fr T:Int),.int .i64 (aL T:Int)] 187)=w3 at hF⊢;refine a5 (aN (bR c)) Js 200 _ _ _ Jt ?_;walk_nrm
 repeat w_go aZ.on
 u_in aZ.on hF
 rw[al3 rfl rfl Bc rfl rfl];simp only[goes_go];refine⟨FQ,?_⟩;walk_nrm
 repeat w_go aZ.on
 refine Goes.stop (fun y l=>⟨rfl,fun x o=>?_⟩);replace hF:=hF.on l;clear l o;have j:=hF.cV (r,Obj.cells #[.pointer (some ⟨c.st,0,none⟩)] 124) Aa;have g:=hF.cV (aO,Obj.cells #[.int .i64 (T:Int),.int .i64 (fr T:Int),.int .i64 (aL T:Int)] 187) Aa;have d:ck M [(aO,Obj.cells #[.int .i64 (T:Int),.int .i64 (fr T:Int),.int .i64 (aL T:Int)] 187),(r,Obj.cells #[.pointer (some ⟨c.st,0,none⟩)] 124)] r:=.inr Aa;have b:ck M [(aO,Obj.cells #[.int .i64 (T:Int),.int .i64 (fr T:Int),.int .i64 (aL T:Int)] 187),(r,Obj.cells #[.pointer (some ⟨c.st,0,none⟩)] 124)] aO:=.inr Aa;have I:=aZ.tV hF;refine Dg (Z:=ah (aE c)) (C:=MM c (r,Obj.cells #[.pointer (some ⟨c.st,0,none⟩)] 124) (aO,Obj.cells #[.int .i64 (T:Int),.int .i64 (fr T:Int),.int .i64 (aL T:Int)] 187)) AU Bc R Bn al8 (σ:=gn c ⟨.idle,false,0,f+16,.aR (.has T) q⟩ (ck M [(aO,Obj.cells #[.int .i64 (T:Int),.int .i64 (fr T:Int),.int .i64 (aL T:Int)] 187),(r,Obj.cells #[.pointer (some ⟨c.st,0,none⟩)] 124)]) y) (jm:=va prog Stop false _ _ _ _ []) K3 ⟨_,_,_,rfl,⟨d,j⟩,⟨b,g⟩,rfl⟩ ?_ _ x I;walk_nrm
 refine cQ (i:=0) (v:=.pointer (some ⟨c.st,0,none⟩)) Bn rfl AS AS AS (MN Jt rfl (fun w n=>?_)) ⟨_,_,_,rfl,⟨d,j⟩,⟨b,g⟩,rfl⟩ ?_
 ·have A:w.cell? ⟨r,0,none⟩=some (.pointer (some ⟨c.st,0,none⟩)):=by simp[World.cell?,n]
  refine⟨BD,fun e p=>⟨0,?_⟩⟩;have t:=mem_listed p;simp[go_sem,A]at t;grind
 walk_nrm
 refine cQ (i:=1) (v:=.agg #[.int .i64 (T:Int),.int .i64 (fr T:Int),.int .i64 (aL T:Int)]) Bn rfl AS AS AS (MN K0 rfl (fun w n=>⟨(BN n rfl rfl).1,fun e p=>?_⟩)) ⟨_,_,_,rfl,⟨d,j⟩,⟨b,g⟩,rfl⟩ ?_
 ·have t:=mem_listed p;rw[(BN n rfl rfl).2]at t;grind
 walk_nrm
 refine cQ (i:=2) (v:=hH) Bn rfl AS AS AS (eh rfl (fun _=>BD) KL) ⟨_,_,_,rfl,⟨d,j⟩,⟨b,g⟩,rfl⟩ ?_;walk_nrm
 refine cQ (i:=3) (v:=.pointer (some ⟨aO,1,none⟩)) Bn rfl AS AS AS (eh rfl (fun _=>BD) KL) ⟨_,_,_,rfl,⟨d,j⟩,⟨b,g⟩,rfl⟩ ?_;walk_nrm
 refine cQ (i:=4) (v:=.int .i64 (fr T:Int)) Bn rfl AS AS AS (MN K0 rfl (fun w n=>?_)) ⟨_,_,_,rfl,⟨d,j⟩,⟨b,g⟩,rfl⟩ ?_
 ·have A:w.cell? ⟨aO,1,none⟩=some (.int .i64 (fr T:Int)):=by simp[World.cell?,n]
  refine⟨BD,fun e p=>⟨1,?_⟩⟩;have t:=mem_listed p;simp[go_sem,A]at t;grind
 walk_nrm
 refine cQ (i:=5) (v:=.pointer (some ⟨aO,2,none⟩)) Bn rfl AS AS AS (eh rfl (fun _=>BD) KL) ⟨_,_,_,rfl,⟨d,j⟩,⟨b,g⟩,rfl⟩ ?_;walk_nrm
 refine cQ (i:=6) (v:=.int .i64 (aL T:Int)) Bn rfl AS AS AS (MN K0 rfl (fun w n=>?_)) ⟨_,_,_,rfl,⟨d,j⟩,⟨b,g⟩,rfl⟩ ?_
 ·have A:w.cell? ⟨aO,2,none⟩=some (.int .i64 (aL T:Int)):=by simp[World.cell?,n]
  refine⟨BD,fun e p=>⟨2,?_⟩⟩;have t:=mem_listed p;simp[go_sem,A]at t;grind
 walk_nrm
 refine ve (i:=7) AS (Bm rfl rfl (Bo (fun w=>RK (rv:=hH) (vs:=#[.int .i64 (fr T:Int),.int .i64 (aL T:Int)]) rfl rfl EB (J.Fs #[.int .i64 (fr T:Int),.int .i64 (aL T:Int)] w)) (J.al9 T ⟨.idle,false,0,f+16,.aR (.has T) q⟩ _ _ O rfl I (P.tr hF)) ?_));rintro u _ ⟨X,w1,a,D,rfl⟩;refine⟨⟨_,_,_,rfl,⟨a.sub _ d,a.heap d j⟩,⟨a.sub _ b,a.heap b g⟩,rfl⟩,?_⟩;walk_nrm
 refine ve (i:=8) AS (Bm rfl rfl (Bo (fun w=>tW (vs:=#[u]) rfl func111 aqX rfl EB w) (J.al_ T ⟨.idle,false,0,f+16,.aR (.has T) q⟩ _ _ u O rfl a.tr ((P.tr hF).more a) D) ?_));rintro v _ ⟨F,H,k,U,rfl⟩;refine⟨⟨_,_,_,rfl,⟨k.sub _ (a.sub _ d),k.heap (a.sub _ d) (a.heap d j)⟩,⟨k.sub _ (a.sub _ b),k.heap (a.sub _ b) (a.heap b g)⟩,rfl⟩,?_⟩;obtain⟨s,a9,rfl⟩:=J.slice _ _ _ _ U;walk_nrm
 refine ve (i:=9) AS (Bm rfl rfl (Bo (fun w=>tW (vs:=#[.pointer (some ⟨c.st,0,none⟩),.agg #[.int .i64 (T:Int),.int .i64 (fr T:Int),.int .i64 (aL T:Int)],.slice s (c.rows T) a9]) rfl func110 aqY rfl EB w) (L s a9 F H k.tr) ?_));rintro u2 _ ⟨rfl,rfl⟩;refine⟨⟨_,_,_,rfl,⟨k.sub _ (a.sub _ d),k.heap (a.sub _ d) (a.heap d j)⟩,⟨k.sub _ (a.sub _ b),k.heap (a.sub _ b) (a.heap b g)⟩,rfl⟩,?_⟩;walk_nrm
 refine zO AS ?_ _;have V:=(iM.start hF a).trans k;clear a k D I d b j g hF L;intro S W hF;replace hF:aZ (ah (aE c)) F H [] S:=hF;unfold gn;rw[<-jo (M:=F)];refine a5 (aN (bR c)) Js 200 _ _ _ Jt ?_;walk_nrm
 repeat w_go aZ.on
 u_in aZ.on hF
 rw[al4 rfl func108 aqZ rfl];simp only[goes_go];refine⟨FQ,?_⟩;walk_nrmf f108
 repeat w_go aZ.on
 u_in aZ.on hF
 rw[al5 rfl rfl rfl rfl BD Bb];simp only[goes_go];refine⟨FQ,?_⟩;walk_nrm
 repeat w_go aZ.on
 refine g6 rfl hF fun y l x o m Q E z hF=>?_;refine RI AU (stepG_value (v:=.bool false) rfl rfl Bc (by simp[go_sem])) rfl F3 ?_;clear z E o l;refine a5 (aN (bR c)) Js 200 _ _ _ Jt ?_;walk_nrm
 repeat w_go aZ.on
 u_in aZ.on hF
 refine ba.Gz rfl rfl func108 rfl rfl ⟨FQ,?_⟩;u_in aZ.on hF
 refine goes_leave0 rfl rfl func83 rfl ⟨FQ,?_⟩;refine Goes.stop (fun y l=>⟨rfl,fun x o=>?_⟩);replace hF:=hF.on l;rw[jo];exact hK (.tuple #[]) (gn c ⟨.idle,false,0,f,.aR .free ((T,.slice s (c.rows T) a9)::q)⟩ F H) AU y x hF
end
end jn
namespace bD
theorem bq{l:List Value}{n:Nat}(h:l.length=n+1):∃x a,l=x::a/\a.length=n:=by cases l with|nil=>grind|cons x a=>grind
theorem aul{a:Act}(h:a.tmps.size=78)(hd:a.defers=[]):∃ft db dA cY ff dQ jH gS hp ja lI ll ij ky kQ ln mD pe rV N pN nQ pO lJ pP pQ pR pS pT M pU pV pW pX pY pZ p0 p1 p5 p6 ub Z Y X W V U T S R Q P tB tC rU O p7 Kb Kc An Kd Ke Kf Kg Kh Ki Kj Kk Kl Km Kn Ko Kp Kq Kr Ks Kt Ku,a=⟨#[ft,db,dA,cY,ff,dQ,jH,gS,hp,ja,lI,ll,ij,ky,kQ,ln,mD,pe,rV,N,pN,nQ,pO,lJ,pP,pQ,pR,pS,pT,M,pU,pV,pW,pX,pY,pZ,p0,p1,p5,p6,ub,Z,Y,X,W,V,U,T,S,R,Q,P,tB,tC,rU,O,p7,Kb,Kc,An,Kd,Ke,Kf,Kg,Kh,Ki,Kj,Kk,Kl,Km,Kn,Ko,Kp,Kq,Kr,Ks,Kt,Ku],[]⟩:=by obtain⟨⟨l⟩,ds⟩:=a;have hd:ds=[]:=hd;subst hd;have h0:l.length=78:=h;clear h;obtain⟨ft,l0,rfl,h1⟩:=bq h0;obtain⟨db,l1,rfl,h2⟩:=bq h1;obtain⟨dA,dv,rfl,h3⟩:=bq h2;obtain⟨cY,nX,rfl,h4⟩:=bq h3;obtain⟨ff,AE,rfl,bn⟩:=bq h4;obtain⟨dQ,HA,rfl,bI⟩:=bq bn;obtain⟨jH,Fg,rfl,eO⟩:=bq bI;obtain⟨gS,Ln,rfl,h_⟩:=bq eO;obtain⟨hp,HB,rfl,vj⟩:=bq h_;obtain⟨ja,adp,rfl,Kv⟩:=bq vj;obtain⟨lI,adq,rfl,Kw⟩:=bq Kv;obtain⟨ll,adr,rfl,xg⟩:=bq Kw;obtain⟨ij,HI,rfl,Ao⟩:=bq xg;obtain⟨ky,ads,rfl,Kx⟩:=bq Ao;obtain⟨kQ,adt,rfl,Ky⟩:=bq Kx;obtain⟨ln,adu,rfl,AV⟩:=bq Ky;obtain⟨mD,Oq,rfl,Kz⟩:=bq AV;obtain⟨pe,KA,rfl,KB⟩:=bq Kz;obtain⟨rV,adv,rfl,KC⟩:=bq KB;obtain⟨N,aum,rfl,AR⟩:=bq KC;obtain⟨pN,aun,rfl,Uo⟩:=bq AR;obtain⟨nQ,auo,rfl,EA⟩:=bq Uo;obtain⟨pO,aup,rfl,Up⟩:=bq EA;obtain⟨lJ,auq,rfl,Uq⟩:=bq Up;obtain⟨pP,aur,rfl,Ur⟩:=bq Uq;obtain⟨pQ,aus,rfl,Us⟩:=bq Ur;obtain⟨pR,aut,rfl,Ot⟩:=bq Us;obtain⟨pS,auu,rfl,Ut⟩:=bq Ot;obtain⟨pT,auv,rfl,Uu⟩:=bq Ut;obtain⟨M,auw,rfl,Uv⟩:=bq Uu;obtain⟨pU,aux,rfl,Uw⟩:=bq Uv;obtain⟨pV,auy,rfl,Ux⟩:=bq Uw;obtain⟨pW,auz,rfl,Uy⟩:=bq Ux;obtain⟨pX,auA,rfl,KD⟩:=bq Uy;obtain⟨pY,auB,rfl,Uz⟩:=bq KD;obtain⟨pZ,auC,rfl,UA⟩:=bq Uz;obtain⟨p0,auD,rfl,UB⟩:=bq UA;obtain⟨p1,auE,rfl,UC⟩:=bq UB;obtain⟨p5,auF,rfl,UD⟩:=bq UC;obtain⟨p6,auG,rfl,QI⟩:=bq UD;obtain⟨ub,aF0,rfl,z⟩:=bq QI;obtain⟨Z,aF1,rfl,y⟩:=bq z;obtain⟨Y,aF2,rfl,x⟩:=bq y;obtain⟨X,aF3,rfl,w⟩:=bq x;obtain⟨W,aF4,rfl,v⟩:=bq w;obtain⟨V,aF5,rfl,u⟩:=bq v;obtain⟨U,aF6,rfl,t⟩:=bq u;obtain⟨T,aF7,rfl,s⟩:=bq t;obtain⟨S,aF8,rfl,r⟩:=bq s;obtain⟨R,aF9,rfl,BO⟩:=bq r;obtain⟨Q,aF_,rfl,Ud⟩:=bq BO;obtain⟨P,aGa,rfl,Ue⟩:=bq Ud;obtain⟨tB,aGb,rfl,Uf⟩:=bq Ue;obtain⟨tC,aGc,rfl,q⟩:=bq Uf;obtain⟨rU,aGd,rfl,p⟩:=bq q;obtain⟨O,aGe,rfl,o⟩:=bq p;obtain⟨p7,aGf,rfl,n⟩:=bq o;obtain⟨Kb,aGg,rfl,m⟩:=bq n;obtain⟨Kc,aGh,rfl,k⟩:=bq m;obtain⟨An,aGi,rfl,j⟩:=bq k;obtain⟨Kd,aGj,rfl,i⟩:=bq j;obtain⟨Ke,aGk,rfl,g⟩:=bq i;obtain⟨Kf,aGl,rfl,LD⟩:=bq g;obtain⟨Kg,aGm,rfl,f⟩:=bq LD;obtain⟨Kh,aGn,rfl,K⟩:=bq f;obtain⟨Ki,aGo,rfl,J⟩:=bq K;obtain⟨Kj,aGp,rfl,I⟩:=bq J;obtain⟨Kk,aGq,rfl,H⟩:=bq I;obtain⟨Kl,aGr,rfl,F⟩:=bq H;obtain⟨Km,aGs,rfl,L⟩:=bq F;obtain⟨Kn,aGt,rfl,E⟩:=bq L;obtain⟨Ko,aGu,rfl,D⟩:=bq E;obtain⟨Kp,aGv,rfl,C⟩:=bq D;obtain⟨Kq,aGw,rfl,B⟩:=bq C;obtain⟨Kr,aGx,rfl,A⟩:=bq B;obtain⟨Ks,aGy,rfl,e⟩:=bq A;obtain⟨Kt,aGz,rfl,d⟩:=bq e;obtain⟨Ku,c,rfl,b⟩:=bq d;cases c with|nil=>grind|cons=>simp at b
theorem avd{a:Act}(h:a.tmps.size=19)(hd:a.defers=[]):∃q s u v r t m p o k g f n i j e d c b,a=⟨#[q,s,u,v,r,t,m,p,o,k,g,f,n,i,j,e,d,c,b],[]⟩:=by obtain⟨⟨l⟩,ds⟩:=a;have hd:ds=[]:=hd;subst hd;have h0:l.length=19:=h;clear h;obtain⟨q,X,rfl,C⟩:=bq h0;obtain⟨s,l1,rfl,B⟩:=bq C;obtain⟨u,Y,rfl,A⟩:=bq B;obtain⟨v,W,rfl,z⟩:=bq A;obtain⟨r,AE,rfl,E⟩:=bq z;obtain⟨t,HA,rfl,F⟩:=bq E;obtain⟨m,Fg,rfl,D⟩:=bq F;obtain⟨p,Ln,rfl,y⟩:=bq D;obtain⟨o,HB,rfl,x⟩:=bq y;obtain⟨k,N,rfl,S⟩:=bq x;obtain⟨g,M,rfl,R⟩:=bq S;obtain⟨f,L,rfl,w⟩:=bq R;obtain⟨n,HI,rfl,U⟩:=bq w;obtain⟨i,K,rfl,Q⟩:=bq U;obtain⟨j,J,rfl,P⟩:=bq Q;obtain⟨e,I,rfl,V⟩:=bq P;obtain⟨d,Z,rfl,O⟩:=bq V;obtain⟨c,KA,rfl,T⟩:=bq O;obtain⟨b,H,rfl,KC⟩:=bq T;grind
theorem ave{a:Act}(h:a.tmps.size=40)(hd:a.defers=[]):∃M O Q R N P I L K H D B J E F A z e d c t y s C r q p o n b m k j i g f x w v u,a=⟨#[M,O,Q,R,N,P,I,L,K,H,D,B,J,E,F,A,z,e,d,c,t,y,s,C,r,q,p,o,n,b,m,k,j,i,g,f,x,w,v,u],[]⟩:=by obtain⟨⟨l⟩,ds⟩:=a;have hd:ds=[]:=hd;subst hd;have h0:l.length=40:=h;clear h;obtain⟨M,l0,rfl,Y⟩:=bq h0;obtain⟨O,l1,rfl,X⟩:=bq Y;obtain⟨Q,dv,rfl,W⟩:=bq X;obtain⟨R,nX,rfl,V⟩:=bq W;obtain⟨N,AE,rfl,bn⟩:=bq V;obtain⟨P,HA,rfl,bI⟩:=bq bn;obtain⟨I,Fg,rfl,Z⟩:=bq bI;obtain⟨L,Ln,rfl,U⟩:=bq Z;obtain⟨K,HB,rfl,T⟩:=bq U;obtain⟨H,adp,rfl,Kv⟩:=bq T;obtain⟨D,adq,rfl,Kw⟩:=bq Kv;obtain⟨B,adr,rfl,S⟩:=bq Kw;obtain⟨J,HI,rfl,Ao⟩:=bq S;obtain⟨E,ads,rfl,Kx⟩:=bq Ao;obtain⟨F,adt,rfl,Ky⟩:=bq Kx;obtain⟨A,adu,rfl,AV⟩:=bq Ky;obtain⟨z,Oq,rfl,Kz⟩:=bq AV;obtain⟨e,KA,rfl,KB⟩:=bq Kz;obtain⟨d,adv,rfl,KC⟩:=bq KB;obtain⟨c,aum,rfl,AR⟩:=bq KC;obtain⟨t,aun,rfl,Uo⟩:=bq AR;obtain⟨y,auo,rfl,EA⟩:=bq Uo;obtain⟨s,aup,rfl,Up⟩:=bq EA;obtain⟨C,auq,rfl,Uq⟩:=bq Up;obtain⟨r,aur,rfl,Ur⟩:=bq Uq;obtain⟨q,aus,rfl,Us⟩:=bq Ur;obtain⟨p,aut,rfl,Ot⟩:=bq Us;obtain⟨o,auu,rfl,Ut⟩:=bq Ot;obtain⟨n,auv,rfl,Uu⟩:=bq Ut;obtain⟨b,auw,rfl,Uv⟩:=bq Uu;obtain⟨m,aux,rfl,Uw⟩:=bq Uv;obtain⟨k,auy,rfl,Ux⟩:=bq Uw;obtain⟨j,auz,rfl,Uy⟩:=bq Ux;obtain⟨i,auA,rfl,KD⟩:=bq Uy;obtain⟨g,auB,rfl,Uz⟩:=bq KD;obtain⟨f,auC,rfl,UA⟩:=bq Uz;obtain⟨x,auD,rfl,UB⟩:=bq UA;obtain⟨w,auE,rfl,UC⟩:=bq UB;obtain⟨v,auF,rfl,UD⟩:=bq UC;obtain⟨u,auG,rfl,QI⟩:=bq UD;grind
section
open Conc ConcM RowKit az bu cZ dD nG
variable {O:jW}
section
variable {P:Program} {Post:Value->World->Prop} {n:Nat} {Shun:Loc->Prop} {M:Nat->Prop} {w:World} {f:FuncId} {a b:Act} {k k':List Item} {cs:List Frame} {n0:Nat} {bt:Nat->Prop} {w0:World}
theorem nJ.act{D:gp}(hd:D.d=cs.length){g:Goroutine}(h:nJ P D (bb ((base f).at a k) cs) g):∃b,g=bb ((base f).at b k) cs/\jX D a b:=by
 generalize c:bb ((base f).at a k) cs=g0 at h;cases h with
 |same g hl=>grind[bb]
 |h5 h v=>cases c;obtain⟨b,rfl,d⟩:=fa.act h;exact⟨b,rfl,d⟩
 |under a h=>cases c;have:=h.lt;omega
theorem EP(m:(df P).Good)(hF:P.follows .rangeFuncRecover=true)(A:mz P f){D:gp}(hd:D.d=cs.length)(y:DN P D f)(x:jX D a b)(K:k.all (iP D)=true)(H:Held O P bt w0 n0 a M w Shun)(z:k.all (kv P)=true)(F:k'.all (kv P)=true){I J:Act->World->Prop}(C:vl n0 I)(v:vl n0 J)(h0:I a w)
 (hrun:∀W,n0<=W.heap.size->I a W->c2 (ai P true) k k' (fun a1 w1=>a1.defers=[]/\J a1 w1/\Below n0 W w1) a W)
 (E:∀a' e M' w',Held O P bt w0 n0 a' M' w' Shun->jX D a' e->J a' w'->cp P Post n Shun 0 (bb ((base f).at e k') cs) w'):
 cp P Post n Shun 0 (bb ((base f).at b k) cs) w:=by
 refine ZS m hF (D:=D) H.dH (f:=f) (cs0:=[]) (bs:=cs) (g:=bb ((base f).at b k) cs) Ay (.h5 (x.ZT f k) (y.bQ K a) cs hd.symm _ _) (M9 m A H.all H.defers z) .nil ⟨rfl,rfl⟩ (R:=fun r cse c j=>cse=[]/\∃a1,r=(base f).at a1 k'/\a1.defers=[]/\J a1 j/\∃T,Below n0 {c with tape:=T} j) (fun c d T=>?_) ?_
 ·obtain⟨a1,w1,⟨q,p,i⟩,o⟩:=hrun {c with tape:=T} GK (C _ _ _ _ _ (H.dH.vm d T) H.all h0) (base f) [eP f];grind
 ·rintro ρ r cse c j N L w' g' d ⟨rfl,a1,rfl,s,q,T,p⟩ u h l t;cases h;obtain⟨a',rfl,i,o⟩:=M_ s F u;obtain⟨e,rfl,B⟩:=nJ.act hd t;exact E a' e (l3 ρ) w' (H.next d l p (l.all i) o) B (v _ _ _ _ _ (l.vm H.size) i q)
variable {ops:Array Oper} {i:Nat} {rest:List Nat} {o:Oper}
theorem jX.put{D:gp}(h:jX D a b){d:Tmp}(f:D.T d=false)(hK:D.K d=false)(u:Value):jX D (a.put (some d) u) (b.put (some d) u):=by
 refine⟨by rw[gQ,gQ];exact h.size,fun i hi=>?_,fun i v hi e=>?_,fun i hi=>?_,by rw[put_defers,put_defers];exact h.defers⟩
 ·simp[Act.put,Array.getElem?_setIfInBounds,h.size,h.same i hi]
 ·have c:d≠i:=AU;simp[Act.put,c]at e;exact h.gone i v hi e
 ·have c:d≠i:=AU;simp[Act.put,c];exact h.kept i hi
theorem jX.eval{D:gp}(h:jX D a b){x:Operand}(c:zU D x=true):b.eval x=a.eval x:=by
 cases x with
 |tmp t=>
  have ht:D.T t=false:=by grind[zU]
  simp[Act.eval,h.same t ht]
 | _=>rfl
structure O4(P:Program)(f:FuncId)(ops:Array Oper)(k:List Item)(D:Nat->gp):Prop where
 d:∀n,(D n).d=n
 fn:∀n,DN P (D n) f
 ops:∀n,ops.all (wz (D n) ops)=true
 items:∀n,k.all (iP (D n))=true
 a2:∀n i,(D n).T i=true->(D n).K i=true
 follows:P.follows .rangeFuncRecover=true
 one:∀n m i,((D n).T i=(D m).T i/\(D n).K i=(D m).K i/\(D n).V i=(D m).V i)
theorem jX.any{D:Nat->gp}(h:O4 P f ops k D){n:Nat}(c:jX (D n) a b)(m:Nat):jX (D m) a b:=
 ⟨c.size,fun i hi=>c.same i ((h.one n m i).1.trans hi),fun i v hi d=>c.gone i v ((h.one n m i).1.trans hi) d,fun i hi=>(c.kept i ((h.one n m i).2.1.trans hi)).trans (h.one n m i).2.2,c.defers⟩
theorem awN{d:Nat}{g:FuncId}{s:Func}{j8:Code}{args:Array Operand}{ats:Array TypeId}(q:o.op=.call {callee:=.value (.func g),args,argTypes:=ats})(Q:P.funcs[g]?=some s)(C:(s.name== "runtime.NumGoroutine")=false)(j:s.body=some j8)
 (Z:n+16*d<=200) (R:mz P f) {D:Nat->gp} (c:O4 P f ops k D) (h:jX (D cs.length) a b) (H:Held O P bt w0 n0 a M w Shun) (r:(Item.inRegion ops []::k).all (kv P)=true) (t:ops[i]?=some o) (L:o.guard=none) {dt:Tmp} (E:o.dst=some dt/\dt<a.tmps.size) (B:∀n,nG.jf (D n) o=true) {I J:Act->World->Prop} {oo:World->Value->Prop} (T:vl n0 I) (h0:I a w)
 (F:∀k,qH O P Post g (args.map a.eval) M (w.at k) d (fun u _ w'=>oo w' u/\fm M w w'))
 (K:∀u w',I a w'->oo w' u->J (a.put (some dt) u) w')
 (X:∀a' A M' w' l p,l<=n+16*d->Held O P bt w0 n0 a' M' w' p->jX (D cs.length) a' A->J a' w'->cp P Post l p 0 (bb ((base f).at A (.inRegion ops rest::k)) cs) w'):
 cp P Post n Shun 0 (bb ((base f).at b (.inRegion ops (i::rest)::k)) cs) w:=by
 simp only[List.all_cons,Bool.and_eq_true]at r;have S:∀n,(D n).T dt=false:=fun n=>by simp_all[nG.jf,Na]
 have N:args.map b.eval=args.map a.eval:=Array.map_congr_left fun x hx=>h.eval (by
  have:=B cs.length;simp only[nG.jf,Bool.and_eq_true]at this;grind[Array.all_eq_true_iff_forall_mem,Op.operands,Call.operands])
 have hK:(D cs.length).K dt=false:=by have:=Array.all_eq_true_iff_forall_mem.1 (c.ops cs.length) o (Array.mem_of_getElem? t);simp_all[wz,Sc]
 refine Gn q Q C j N Z H.dH ⟨R,.inr ⟨D,a,fun m=>h.any c m,H.all,c.d,c.fn,c.ops,c.items,fun n d' e=>?_,c.a2,c.follows⟩,by rw[h.defers];exact H.defers,r.1,r.2,⟨dt,AU,by rw[h.size];grind⟩⟩ t (fJ L _) F ?_
 ·grind
 rintro u M' w' l p W V v U z ⟨Y,y⟩;rw[E.1];refine X _ _ M' w' l p W ⟨V,fun b j=>v b (H.sub b j),H.gA.trans z,H.keep.trans (fun b j=>H.sub b j.1) y,?_,by rw[put_defers];exact H.defers,Nat.le_trans H.size z.size⟩ (h.put (S _) hK u) (K u w' (T _ _ _ _ _ (y.vm H.dH) H.all h0) Y);exact(H.all.mono (sG v)).set U _
theorem awO(hC:(df P).Good)(Jc:P.follows .mixedOrders=true)(Q:mz P f){D:Nat->gp}(m:O4 P f ops k D)(r:(Item.inRegion ops []::k).all (kv P)=true)(g:Nat){j:Oper}{d:Nat}{gf:FuncId}{C:Func}{j8:Code}{args:Array Operand}{ats:Array TypeId}(R:ops[g]?=some j)(z:j.op=.call {callee:=.value (.func gf),args,argTypes:=ats})(Sm:P.funcs[gf]?=some C)(T:(C.name== "runtime.NumGoroutine")=false)(hb:C.body=some j8)(Z:j.guard=none)(S:∀n,nG.jf (D n) j=true)
 (aj:n+16*d<=200) {I:Array Bool->Act->World->Prop} (t:∀aq,vl n0 (I aq)) {dt:Tmp} (tZ:j.dst=some dt) (anI:∀aq a w,I aq a w->dt<a.tmps.size) {oo:World->Value->Prop} (hsz:∀aq a w,I aq a w->aq.size=ops.size)
 (s:jX (D cs.length) a b) (H:Held O P bt w0 n0 a M w Shun) (h0:I (Array.replicate ops.size false) a w)
 (hstep:∀aq a W i o,I aq a W->a.defers=[]->n0<=W.heap.size->i≠g->aq.getD i true=false->ops[i]?=some o->(∀e∈o.after,Region.binds .any e=true->aq.getD e.on false=true)->wpOps (ai P true) ops (ii fun a1 w1=>a1.defers=[]/\I (aq.setIfInBounds i true) a1 w1/\Below n0 W w1) [i] a W)
 (Y:∀aq a M w Shun,Held O P bt w0 n0 a M w Shun->I aq a w->aq.getD g false=false->(∀e∈j.after,Region.binds .any e=true->aq.getD e.on false=true)->qH O P Post gf (args.map a.eval) M w d (fun u _ w'=>oo w' u/\fm M w w'))
 (X:∀aq a w u,I aq a w->aq.getD g false=false->(∀e∈j.after,Region.binds .any e=true->aq.getD e.on false=true)->oo w u->I (aq.setIfInBounds g true) (a.put (some dt) u) w)
 (jN:∀aq a b M' w' c v,I aq a w'->Region.ready .any ops aq=[]->c<=n+16*d->Held O P bt w0 n0 a M' w' v->jX (D cs.length) a b->cp P Post c v 0 (bb ((base f).at b (.inRegion ops []::k)) cs) w')
 {id:Nat}:cp P Post n Shun 0 (bb ((base f).at b (.code (.region id ops true)::k)) cs) w:=by
 have da:∀aq a M w Shun k,Held O P bt w0 n0 a M w Shun->I aq a w->I aq a (w.at k):=fun aq a M w Shun k H h=>t aq _ _ _ _ _ ((show fm M w (w.at k)from fun _ _ _ _ _ x=>x).vm H.dH) H.all h;have i9:∀l:List Nat,(Item.inRegion ops l::k).all (iP (D cs.length))=true:=fun l=>by rw[List.all_cons,Bool.and_eq_true];refine⟨?_,m.items _⟩;simp[iP];intro i _;cases q:ops[i]? with|none=>rfl|some o=>exact Array.all_eq_true_iff_forall_mem.1 (m.ops _) o (Array.mem_of_getElem? q)
 refine Ni Jc (I:=fun aq b M w c Shun=>∃a,jX (D cs.length) a b/\Held O P bt w0 n0 a M w Shun/\I aq a w/\c<=n+16*d/\(aq.getD g false=false->c<=n)) (fun aq b M w c Shun k⟨a,hv,h⟩=>⟨a,hv,h.1.at k,AU,h.2.2⟩) ?_ AU ⟨a,s,H,h0,Nat.le_add_right _ _,fun _=>Nat.le_refl _⟩;intro aq b M w c Shun i o rest ⟨a,s,H,hi,V,U⟩ iH q E K;have lX:i<aq.size:=by grind
 by_cases L:i=g
 ·subst L;rw[R]at q;cases q;have N:aq.getD i false=false:=by grind
  refine awN z Sm T hb AU Q m s H r R Z AU S (I:=I aq) (J:=I (aq.setIfInBounds i true)) (oo:=oo) (t aq) hi (fun k=>Y aq a M (w.at k) Shun (H.at k) AU N E) (fun u w' B p=>X aq a w' u B N E p) ?_;intro a' F M' w' gj v B p y A;refine K F M' w' gj v ⟨a',y,p,A,AU,fun h=>?_⟩;simp_all
 ·refine EP hC m.follows Q (m.d _) (m.fn _) s (i9 _) H (k:=.inRegion ops (i::rest)::k) (k':=.inRegion ops rest::k) H6 H6 (I:=I aq) (J:=I (aq.setIfInBounds i true)) (t aq) (t _) hi (fun W hW Sn b cs=>?_) ?_
  ·obtain⟨a1,w1,B,p⟩:=Nj rest [i] a W (hstep aq a W i o Sn H.defers hW L iH q E) b k cs;grind
  ·intro a' F M' w' p y A;refine K F M' w' c Shun ⟨a',y,p,A,V,fun h=>U ?_⟩;simp_all
end
section
variable {D D':gp}
theorem U4(c:D.T=D'.T)(b:D.K=D'.K)(a:D.sl=D'.sl):wz D=wz D':=by cases D;cases D';simp only at c b a;subst c;subst b;subst a;rfl
theorem awP(a:D.T=D'.T):zU D=zU D':=by cases D;cases D';simp only at a;subst a;rfl
theorem aem(g:D.T=D'.T)(j:D.K=D'.K)(h:D.sl=D'.sl):∀c,qE D c=qE D' c:=by intro c;induction c with|region id ops d=>simp[qE,U4 g j h]|seq a b f e=>grind[qE]|cond c a b f e=>simp[qE,f,e,awP g]|block id c i=>grind[qE]|loop c i=>grind[qE]| _=>rfl
theorem awQ(d:D.T=D'.T)(b:D.K=D'.K)(a:D.sl=D'.sl):∀x,iP D x=iP D' x:=by intro x;cases x with|code c=>exact aem d b a c|inLoop c=>exact aem d b a c|inRegion ops l=>simp[iP,U4 d b a]| _=>rfl
theorem aen(c:D.T=D'.T)(b:D.K=D'.K)(a:D.sl=D'.sl)(l:List Item):l.all (iP D)=l.all (iP D'):=by rw[funext (awQ c b a)]
end
end
end bD
end Go.Proofs.YtoehnnefaeoeoaaGreat
