import Derived.Test.YtoehnnefaeoeoaaGreatPAQ
set_option linter.all false
set_option maxRecDepth 100000
set_option maxHeartbeats 16000000
namespace Go.Proofs.YtoehnnefaeoeoaaGreat
open Go.Proofs.Tryz
namespace cA
open RowKit Shelf az b_
def qA(k:Int)(D:Nat->bU)(n:Nat):List Value:=if k=3 then []else(List.range n).map fun r=>.int .i64 (D r).cb
def qB(k:Int)(D:Nat->bU)(n:Nat):List Value:=if k=3 then(List.range n).map fun r=>.string (D r).text else []
def vh(D:Nat->bU)(n:Nat):List Value:=(List.range n).map fun r=>.bool (D r).fj
theorem amF(k:Int)(D:Nat->bU)(n:Nat):(qA k D n).length<=n:=by grind[qA]
theorem amG(k:Int)(D:Nat->bU)(n:Nat):(qB k D n).length<=n:=by grind[qB]
theorem amH(D:Nat->bU)(n:Nat):(vh D n).length=n:=by simp[vh]
theorem Zu(D:Nat->bU)(n:Nat):vh D (n+1)=vh D n++[.bool (D n).fj]:=by simp[vh,List.range_succ]
variable {k:Int}
theorem amI(h:k≠3)(D:Nat->bU)(n:Nat):qA k D (n+1)=qA k D n++[.int .i64 (D n).cb]:=by simp[qA,List.range_succ,h]
theorem amJ(h:k=3)(D:Nat->bU)(n m:Nat):qA k D n=qA k D m:=by simp[qA,h]
theorem amK(h:k=3)(D:Nat->bU)(n:Nat):qB k D (n+1)=qB k D n++[.string (D n).text]:=by simp[qB,List.range_succ,h]
theorem amL(h:k≠3)(D:Nat->bU)(n m:Nat):qB k D n=qB k D m:=by simp[qB,h]
structure xN(l:List (Int×Int))(D:Nat->Nat->bU)(m:Nat->Nat)(L:List e8)(cs:Array Value):Prop where
 size:cs.size=l.length*5
 sC:∀i(h:i<l.length),∃bQ vs bo,cs[i*5]?=some (.int .i64 l[i].1)/\cs[i*5+1]?=some (.int .i64 l[i].2)/\cs[i*5+2]?=some bQ/\cs[i*5+3]?=some vs/\cs[i*5+4]?=some bo/\
  L[3*i]?=some ⟨2,bQ,qA l[i].1 (D · i) (m i)⟩/\L[3*i+1]?=some ⟨9,vs,qB l[i].1 (D · i) (m i)⟩/\L[3*i+2]?=some ⟨4,bo,vh (D · i) (m i)⟩
 DD:∀i(h:i<L.length),L[i].e=2\/L[i].e=9\/L[i].e=4
variable {L:List e8}
theorem M3(h:∀i(h:i<L.length),L[i].e=2\/L[i].e=9\/L[i].e=4)(q:Nat)(x:e8)(a:x.e=2\/x.e=9\/x.e=4):∀i(h:i<(L.set q x).length),(L.set q x)[i].e=2\/(L.set q x)[i].e=9\/(L.set q x)[i].e=4:=by grind
def yL(m:Nat->Nat)(i j:Nat):Nat:=if j=i then m j+1 else m j
theorem amM(m:Nat->Nat)(i:Nat):yL m i i=m i+1:=by simp[yL]
variable {i:Nat}
theorem amN(m:Nat->Nat){j:Nat}(h:j≠i):yL m i j=m j:=by simp[yL,h]
theorem R5{r:e8}(h:L[i]?=some r):i<L.length:=(List.getElem?_eq_some_iff.1 h).1
theorem xN.yL{l:List (Int×Int)}{D:Nat->Nat->bU}{m:Nat->Nat}{cs:Array Value}(h:xN l D m L cs)(hi:i<l.length){a:List e8}{bQ vs b:Value}
 (t:∀q,q≠3*i->q≠3*i+1->q≠3*i+2->a[q]?=L[q]?) (ht:∀i(h:i<a.length),a[i].e=2\/a[i].e=9\/a[i].e=4)
 (h0:a[3*i]?=some ⟨2,bQ,qA l[i].1 (D · i) (m i+1)⟩) (v:a[3*i+1]?=some ⟨9,vs,qB l[i].1 (D · i) (m i+1)⟩) (u:a[3*i+2]?=some ⟨4,b,vh (D · i) (m i+1)⟩):
 xN l D (yL m i) a (tR cs i (.int .i64 l[i].1) (.int .i64 l[i].2) bQ vs b):=by
 refine⟨by simp[tR];exact h.size,fun j n=>?_,ht⟩;by_cases e:j=i
 ·subst e;have s:=h.size;obtain⟨ap,a1,f,d,c⟩:=Yh (cs:=cs) (k:=j) (.int .i64 l[j].1) (.int .i64 l[j].2) bQ vs b Ay;grind[amM]
 ·rw[amN m e];obtain⟨o,g,wn,ap,a1,f,d,c,w,p,r⟩:=h.sC j n;refine⟨o,g,wn,(yr (i:=0) _ _ _ _ _ e AW).trans ap,(yr _ _ _ _ _ e AW).trans a1,(yr _ _ _ _ _ e AW).trans f,(yr _ _ _ _ _ e AW).trans d,(yr _ _ _ _ _ e AW).trans c,?_,?_,?_⟩
  ·grind
  ·grind
  grind
variable {B:Nat}{w:World}
theorem amO{l:List (Int×Int)}{D:Nat->Nat->bU}{m:Nat->Nat}{cs:Array Value}(h:xN l D m L cs)(d:eZ B w L)(y:B<=w.heap.size)(hi:i<l.length)(H:m i<=1000)(ht:(D (m i) i).text.size<=1000000)
 {bQ vs r:Value} (x:cs[i*5+2]?=some bQ) (v:cs[i*5+3]?=some vs) (u:cs[i*5+4]?=some r):
 Calls (ai prog true) 31 #[.agg #[.int .i64 l[i].1,.int .i64 l[i].2,bQ,vs,r],ib (D (m i) i)] w fun e w'=>∃ap n0 cu a1 o c1 a n bH s,e=.returned (.agg #[.int .i64 l[i].1,.int .i64 l[i].2,.slice ap n0 cu,.slice a1 o c1,.slice a n bH])/\eZ B w' s/\
  xN l D (yL m i) s (tR cs i (.int .i64 l[i].1) (.int .i64 l[i].2) (.slice ap n0 cu) (.slice a1 o c1) (.slice a n bH))/\tb L w w':=by
 obtain⟨N,C,wn,ap,a1,a,q,p,f,b,k⟩:=h.sC i hi;rw[x]at a;cases a;rw[v]at q;cases q;rw[u]at p;cases p;obtain⟨P,E,rfl⟩:=s4 (show w.ownsRow B 2 1 bQ (qA l[i].1 (D · i) (m i)).length _ from d.at f);obtain⟨I,q1,rfl⟩:=s4 (show w.ownsRow B 9 1 vs (qB l[i].1 (D · i) (m i)).length _ from d.at b);have F:=amF l[i].1 (D · i) (m i);have l1:=amG l[i].1 (D · i) (m i);have K:=amH (D · i) (m i);have O:=R5 f;have A:=R5 b;have z:=R5 k;refine(ajQ d y f b k l[i].1 l[i].2 (D (m i) i) ht AU).mono ?_;rintro e w' ⟨⟨g,c,J,M,⟨t,rfl,j⟩|⟨t,rfl,j⟩⟩,hF⟩
 ·refine⟨_,_,_,_,_,_,_,_,_,_,rfl,j,h.yL hi ?_ ?_ ?_ ?_ ?_,hF⟩
  ·grind
  ·exact M3 (M3 h.DD _ _ AU) _ _ Jt
  ·grind[amI]
  ·grind[amL]
  grind[Zu]
 ·refine⟨_,_,_,_,_,_,_,_,_,_,rfl,j,h.yL hi ?_ ?_ ?_ ?_ ?_,hF⟩
  ·grind
  ·exact M3 (M3 h.DD _ _ AU) _ _ AU
  ·grind[amJ]
  ·grind[amK]
  grind[Zu]
theorem M4{W:World}(h:eZ B W L){b:Nat}(k:∀c e z,W.heap[b]?=some (.cells c e z)->∀i(h:i<L.length),L[i].e≠e):ip L b:=by
 intro i hi a;rcases(h.own i hi).2 with⟨f,-⟩|⟨g,cap,bp,d,-,j,-⟩
 ·rw[f]at a;cases a
 ·rw[d]at a;cases a;grind
variable {w':World}
theorem amQ(h:tb L w w')(b:eZ B w L):KeepsOthers w w':=
 ⟨h.size,fun k o x y=>(h.block k (n9 x) (M4 b fun c e z a=>by rw[x]at a;cases a;cases y)).trans x⟩
theorem amR{Y:TypeId->Prop}(h:tb L w w')(a:eZ B w L)(d:∀i(h:i<L.length),¬Y L[i].e):eT Y w w':=
 ⟨h.size,fun b c e z x y=>(h.block b (n9 x) (M4 a AU)).trans x⟩
theorem amS{n:Nat}(h:tb L w w')(a:eZ B w L)(d:n<=B)(b:n<=w.heap.size):Below n w w':=
 ⟨h.os,h.tape,h.output,h.size,fun k c=>h.block k Ay (a.oa AU)⟩
end cA
namespace cA
open RowKit
variable {i l n:Nat}{P:Program}{ops:Array Oper}{Q:Exit->Act->World->Prop}{K:Act->World->Prop}{a:Act}{w:World}
theorem amV{K':Act->World->Prop}(f:∀(i:Nat)(o:Oper),ops[i]?=some o->∀c,o.op≠ .defer c)(hK:∀a w,K a w->K' a w)(h:wpOpIn Fence.wide n P ops Q i K a w):wpOpIn (Fence.wide.inRound l) n P ops Q i K' a w:=by
 have h:=wpOpIn_mono (fun a w=>hK a w) h;unfold wpOpIn at *;cases d:ops[i]? with
 |none=>grind
 |some o=>
  simp only[d]at h⊢;split
  ·rename_i e;simp[e]at h;refine⟨h.1,?_⟩;have b:=h.2;rw[Oper.semAt_eq _ _ _ (f i o d)]at b⊢;generalize(execOp a.eval o).run P w=r at b⊢;cases r with|ok x w'=>cases x<;>exact b|halt x w'=>cases x<;>exact b
  simp_all
theorem amW{md:Region.Mode}(b:∀(i:Nat)(o:Oper),ops[i]?=some o->∀c,o.op≠ .defer c):∀(fuel:Nat)(listed:Array Bool)(a:Act)(w:World),wpAnyIn Fence.wide n P md ops Q fuel listed a w->wpAnyIn (Fence.wide.inRound l) n P md ops Q fuel listed a w:=by intro fuel;induction fuel with|zero=>intro listed a w h;exact h|succ fuel d=>exact fun listed a w h=>⟨h.1,fun i hi=>amV b AU (h.2 i hi)⟩
def Zw:Op->Bool
 | .defer _=>true
 | _=>false
theorem amX{id:Nat}(b:P.follows .mixedOrders=true)(hd:(ops.all fun o=> !Zw o.op)=true)
 (h:wpAnyIn Fence.wide n P .any ops Q ops.size (Array.replicate ops.size false) a w.drew):(Code.region id ops true).wpIn (Fence.wide.inRound l) n P Q a w:=
 wpIn_region_any b (amW (fun i o d c e=>by
  grind[Zw]) _ _ _ _ h)
def sD(C:World->Prop)(n:Nat)(P:Program)(ops:Array Oper)(Q:Exit->Act->World->Prop):Nat->Array Bool->Act->World->Prop
 |0,listed,a,w=>Region.ready .any ops listed=[]/\Q .normal a w
 |fuel+1,listed,a,w=>(Region.ready .any ops listed=[]->Q .normal a w)/\∀i∈Region.ready .any ops listed,wpOpIn Fence.wide n P ops Q i (fun a' w'=>C w'/\sD C n P ops Q fuel (listed.setIfInBounds i true) a' w') a w
variable {C:World->Prop}
theorem Gd:∀(fuel:Nat)(listed:Array Bool)(a:Act)(w:World),sD C n P ops Q fuel listed a w->wpAnyIn Fence.wide n P .any ops Q fuel listed a w:=by intro fuel;induction fuel with|zero=>intro listed a w h;exact h|succ fuel b=>exact fun listed a w h=>⟨h.1,fun i hi=>wpOpIn_mono AU (h.2 i hi)⟩
def vi(C:World->Prop)(P:Program)(ops:Array Oper)(o:Oper)(v:Value)(a:Act):Prop:=
 Region.wanted o (yielded ops a.tmps)=true/\(∀w,C w->(execOp a.eval o).run P w=.ok (.value v) w)/\(∀c,o.op≠ .defer c)/\∀w,o.about P w a.eval=none
variable {o:Oper}{v:Value}
theorem vi.op(hi:ops[i]?=some o)(b:vi C P ops o v a)(d:C w)(h:K (a.put o.dst v) w):wpOpIn Fence.wide n P ops Q i K a w:=by unfold wpOpIn;simp[hi,b.1,Oper.wpIn,Oper.semAt_eq _ _ _ b.2.2.1,b.2.1 w d,Oper.uponIn];exact⟨fun f c=>(by rw[b.2.2.2 w]at c;cases c),h⟩
theorem vi.put(c:vi C P ops o v a)(g:∀cs b,o.op≠ .select cs b){d:Option Tmp}(u:Value)(e:∀t,d=some t->t ∉ o.looksAt ops):vi C P ops o v (a.put d u):=
 ⟨by rw[wanted_put o a d u e];exact c.1,fun w f=>by rw[execOp_put o g a d u e];exact c.2.1 w f,c.2.2.1,fun w=>by rw[about_put o w a d u e];exact c.2.2.2 w⟩
variable {bc:Oper}
theorem amY{j:Nat}{e:Oper}(m:ops[j]?=some e)(s:bc.apart ops e=true)(t:∀cs b,bc.op≠ .select cs b)(q:∀cs b,e.op≠ .select cs b)
 (z:∀c a w,Q (.panic c) (a.put bc.dst v) w->Q (.panic c) a w)    (g:vi C P ops bc v a) (h:wpOpIn Fence.wide n P ops Q j K (a.put bc.dst v) w):
 wpOpIn Fence.wide n P ops Q j (fun a' w'=>vi C P ops bc v a'/\K (a'.put bc.dst v) w') a w:=by
 obtain⟨i,y,o⟩:=Oper.apart_spec s;have keep:∀(a:Act),vi C P ops bc v a->∀u,vi C P ops bc v (a.put e.dst u):=fun a g u=>g.put t u o;have p:∀d,vi C P ops bc v {a with defers:=d::a.defers}:=fun d=>⟨g.1,g.2.1,g.2.2.1,g.2.2.2⟩;unfold wpOpIn at *;simp only[m]at *;rw[wanted_put e a bc.dst v i,about_put e w a bc.dst v i]at h;split
 ·rename_i l;simp[l]at h;unfold Oper.wpIn at *;rw[about_put e w a bc.dst v i]at h;refine⟨h.1,?_⟩;have h:=h.2;have k:Fence.wide.round=none:=rfl;rw[k,Oper.semAt_none,execOp_put e q a bc.dst v i]at h;rw[k,Oper.semAt_none];generalize(execOp a.eval e).run P w=r at *;cases r with
  |ok x w'=>
   cases x<;>simp only[Oper.uponIn]at h⊢
   case value u=>grind[Act.put_comm]
   case skip=>grind[Act.put_comm]
   case defer d=>
    grind[Act.put_comm,Act.put_defers]
   case enter f args=>
    grind[CallsIn.mono,Act.put_comm]
   case row row args=>grind[Act.put_comm]
   grind[RoundIn.mono,Act.put_comm]
  |halt x w'=>
   cases x<;>simp only[Oper.uponIn]at h⊢
   grind
 grind[Act.put_comm]
theorem amZ(hi:ops[i]?=some bc)(L:∀(j:Nat)(o:Oper) cs b,ops[j]?=some o->o.op≠ .select cs b)(D:∀c a w,Q (.panic c) (a.put bc.dst v) w->Q (.panic c) a w):
 ∀(fuel:Nat)(listed:Array Bool)(a:Act)(w:World),
  (∀j g,ops[j]?=some g->j≠i->listed.getD j true=false->(∀e∈g.after,Region.binds .any e=true->e.on≠i)->bc.apart ops g=true)->
  i∈Region.ready .any ops listed->vi C P ops bc v a->C w->sD C n P ops Q fuel (listed.setIfInBounds i true) (a.put bc.dst v) w->sD C n P ops Q (fuel+1) listed a w:=by
 intro fuel;induction fuel with
 |zero=>
  intro listed a w _ q h f H;refine⟨AU,fun j l=>?_⟩;by_cases d:j=i
  ·subst d;exact h.op hi f ⟨f,H⟩
  ·have:=ready_mono l d;rw[H.1]at this;grind
 |succ fuel r=>
  intro listed a w B q h f H;refine⟨AU,fun j l=>?_⟩;by_cases d:j=i
  ·subst d;exact h.op hi f ⟨f,H⟩
  ·have x:=H.2 j (ready_mono l d);obtain⟨y,g,A,I⟩:=mem_ready.1 l;have F:∀e∈g.after,Region.binds .any e=true->e.on≠i:=fun e J K t=>by grind[mem_ready]
   have u:=amY A AU AU AU D h x;have z:∀k ok,ops[k]?=some ok->k≠i->(listed.setIfInBounds j true).getD k true=false->(∀e∈ok.after,Region.binds .any e=true->e.on≠i)->bc.apart ops ok=true:=fun k ok s E N m=>by
    refine B k ok s E ?_ m;by_cases M:j=k
    ·grind
    simp_all
   refine wpOpIn_mono (fun a' w' p=>⟨p.2.1,r (listed.setIfInBounds j true) a' w' z (ready_mono q (Ne.symm d)) p.1 p.2.1 ?_⟩) u;grind[Array.setIfInBounds_comm]
variable {fuel:Nat}
theorem wx{listed:Array Bool}(hi:ops[i]?=some bc)(d:Region.noSelect ops=true)(e:Region.free .any ops listed i=true)(j:(Region.ready .any ops listed).contains i=true)
 (g:∀c a w,Q (.panic c) (a.put bc.dst v) w->Q (.panic c) a w) (f:C w) (b:vi C P ops bc v a) (h:sD C n P ops Q fuel (listed.setIfInBounds i true) (a.put bc.dst v) w):sD C n P ops Q (fuel+1) listed a w:=
 amZ hi (Region.noSelect_spec d) g fuel listed a w (Region.free_spec hi e) AU b f h
theorem j9{listed:Array Bool}(b:Region.ready .any ops listed=[i])(c:ops[i]?=some o)
 (h:∀K':Act->World->Prop,(∀a w,C w->sD C n P ops Q fuel (listed.setIfInBounds i true) a w->K' a w)->if Region.wanted o (yielded ops a.tmps)=true then Oper.wpIn Fence.wide n P o a w K' Q else(∀f,o.about P w a.eval=some f->Fence.wide.fn f)/\K' (a.put o.dst undef) w):sD C n P ops Q (fuel+1) listed a w:=
 ⟨AU,by
  rw[b];intro j d;cases List.mem_singleton.1 d;exact wpOpIn_step c fun K' hK=>h K' AU⟩
theorem Ge{listed:Array Bool}(b:Region.ready .any ops listed=[])(h:Q .normal a w):∀fuel,sD C n P ops Q fuel listed a w
 |0=>⟨b,h⟩
 | _+1=>⟨fun _=>h,AU⟩
open Shelf az b_
abbrev lz(w:World)(b k:Nat)(ap a1 bz cG ej:Value):World:=((((w.setCell ⟨b,k*5,none⟩ ap).setCell ⟨b,k*5+1,none⟩ a1).setCell ⟨b,k*5+2,none⟩ bz).setCell ⟨b,k*5+3,none⟩ cG).setCell ⟨b,k*5+4,none⟩ ej
variable {b:Nat}{cs:Array Value}{T:TypeId}
theorem am0(h:af w b cs T)(k:Nat)(ap a1 d c a:Value):af (lz w b k ap a1 d c a) b (tR cs k ap a1 d c a) T:=((((h.set _ _).set _ _).set _ _).set _ _).set _ _
theorem M5(w:World)(b k:Nat)(ap a1 e d c:Value){x:Nat}(a:x≠b):(lz w b k ap a1 e d c).heap[x]?=w.heap[x]?:=
 (Below.heap_setCell _ _ _ _ a).trans ((Below.heap_setCell _ _ _ _ a).trans ((Below.heap_setCell _ _ _ _ a).trans ((Below.heap_setCell _ _ _ _ a).trans (Below.heap_setCell _ _ _ _ a))))
theorem am1(w:World)(b k:Nat)(ap a1 d c a:Value):KeepsOthers w (lz w b k ap a1 d c a):=
 ((((KeepsOthers.setCell _ _ _).trans (KeepsOthers.setCell _ _ _)).trans (KeepsOthers.setCell _ _ _)).trans (KeepsOthers.setCell _ _ _)).trans (KeepsOthers.setCell _ _ _)
theorem am2(h:af w b cs T){Y:TypeId->Prop}(g:¬Y T)(k:Nat)(ap a1 f d a:Value):eT Y w (lz w b k ap a1 f d a):=
 ⟨Bp,fun x c e z i y=>by
  grind[af,M5]⟩
theorem Zx(w:World)(a:n<=b)(k:Nat)(ap a1 e d c:Value):Below n w (lz w b k ap a1 e d c):=
 (((((Below.refl n w).setCell (p:=⟨b,_,none⟩) a _).setCell (p:=⟨b,_,none⟩) a _).setCell (p:=⟨b,_,none⟩) a _).setCell (p:=⟨b,_,none⟩) a _).setCell (p:=⟨b,_,none⟩) a _
variable {D:Nat->Nat->bU}{L:List e8}
theorem xN.congr{l:List (Int×Int)}{m a:Nat->Nat}(h:xN l D m L cs)(b:∀i,i<l.length->m i=a i):xN l D a L cs:=
 ⟨h.size,fun i hi=>by rw[<-b i hi];exact h.sC i hi,h.DD⟩
def sE(t:Int×Int)(D:Nat->bU)(n:Nat):br:=
 ⟨t.1,t.2,if t.1=3 then []else(List.range n).map fun r=>(D r).cb,if t.1=3 then(List.range n).map fun r=>(D r).text else [],(List.range n).map fun r=>(D r).fj⟩
def pC(l:List (Int×Int))(D:Nat->Nat->bU)(n:Nat):List br:=(List.range l.length).map fun i=>sE (l[i]?.getD (0,0)) (D · i) n
variable {B:Nat}{W:World}{e:TypeId}
theorem I4{ar:Type}{R:World->(Nat->Option Value)->ar->Prop}{xs:List Value}{a:List ar}(h:W.ownsRow B e 1 v xs.length xs)(hl:a.length=xs.length)(m:∀i(h:i<a.length),∀rd:Nat->Option Value,rd 0=some (xs[i]'(hl▸h))->R W rd a[i]):bd W 1 R v a:=by
 obtain⟨-,⟨b,o⟩|⟨g,cap,bp,b,-,k,j,n,-,d⟩⟩:=h
 ·grind[bd.nil]
 ·refine⟨_,_,by rw[b,hl],HX,fun i hi=>⟨_,_,rfl,m i hi _ ?_⟩⟩;have f:i<xs.length:=hl▸hi;have l:xs[i]?=some xs[i]:=List.getElem?_eq_getElem f;have c:(bp.toList.take (xs.length*1))[i]?=xs[i]?:=by rw[d]
  rw[List.getElem?_take_of_lt Ay,Array.getElem?_toList]at c;have b0:af W g bp e:=k;show W.cell? ⟨g,0+i*1+0,none⟩=_;rw[b0.bT.1,show 0+i*1+0=i by omega,c,l]
def xO(w:World)(v:Value)(e:TypeId):Prop:=∀b,v.ownBlock=some b->∃c z,w.heap[b]?=some (.cells c e z)
theorem tt{xs:List Value}(h:W.ownsRow B e 1 v n xs):xO W v e:=by
 intro b a;obtain⟨-,⟨c,-⟩|⟨g,cap,bp,c,-,d,-⟩⟩:=h
 ·rw[c]at a;cases a
 ·rw[c]at a;cases a;grind
def am3(w:World)(rd:Nat->Option Value)(c:br):Prop:=
 ∃bQ vs bo,rd 0=some (.int .i64 c.kind)/\rd 1=some (.int .i64 c.cE)/\rd 2=some bQ/\rd 3=some vs/\rd 4=some bo/\w6 w bQ vs bo c/\xO w bQ 2/\xO w vs 9/\xO w bo 4
def iB(w:World)(v:Value)(t:List br):Prop:=bd w 5 am3 v t/\xO w v 48
theorem iB.bw{t:List br}(h:iB w v t):lV w v t:=by obtain⟨⟨l,cap,a,hl,m⟩,-⟩:=h;refine⟨l,cap,a,hl,fun i hi=>?_⟩;obtain⟨b,off,c,bQ,vs,j,h0,g,f,e,d,k,-⟩:=m i hi;exact⟨b,off,c,bQ,vs,j,h0,g,f,e,d,k⟩
def jU(e:TypeId):Prop:=e=48\/e=2\/e=9\/e=4
variable {w':World}
theorem Zy(d:eT jU w w'){c:Nat}{off:Nat}(ht:xO w (.slice (some ⟨b,off,none⟩) l c) e)(a:jU e)(o:Nat):w'.cell? ⟨b,o,none⟩=w.cell? ⟨b,o,none⟩:=by obtain⟨cs,z,h⟩:=ht b rfl;have:=d.cells _ _ _ _ h a;grind[World.cell?]
theorem R7{ar:Type}{R:World->(Nat->Option Value)->ar->Prop}(f:∀w w' rd a x,(∀j v,rd j=some v->a j=some v)->R w rd x->R w' a x)(d:eT jU w w')(ht:xO w v e)(c:jU e){xs:List ar}(h:bd w 1 R v xs):bd w' 1 R v xs:=by obtain⟨b,cap,rfl,hl,g⟩:=h;refine⟨b,cap,rfl,hl,fun i hi=>?_⟩;grind[Zy]
theorem iB.kept{t:List br}(d:eT jU w w')(h:iB w v t):iB w' v t:=by
 obtain⟨⟨y,cap,rfl,hl,A⟩,ht⟩:=h;have hd:∀{v e},jU e->xO w v e->xO w' v e:=fun m h b p=>by obtain⟨c,z,f⟩:=h b p;exact⟨c,z,d.cells _ _ _ _ f m⟩
 refine⟨⟨y,cap,rfl,hl,fun i hi=>?_⟩,hd Jt ht⟩;obtain⟨b,off,rfl,bQ,vs,u,h0,f,s,r,q,g,l,k,j⟩:=A i hi;have key:∀o x,w.cell? ⟨b,o,none⟩=some x->w'.cell? ⟨b,o,none⟩=some x:=fun o x n=>(Zy d ht Jt o).trans n;exact⟨b,off,rfl,bQ,vs,u,key _ _ h0,key _ _ f,key _ _ s,key _ _ r,key _ _ q,⟨R7 (R:=w5) (fun _ _ _ _ _ a h=>a _ _ h) d l (.inr Jt) g.jP,R7 (R:=CH) (fun _ _ _ _ _ a h=>⟨a _ _ h.1,h.2⟩) d k (.inr AU) g.hQ,R7 (R:=AN) (fun _ _ _ _ _ a h=>a _ _ h) d j (.inr AU) g.fY⟩,hd (.inr Jt) l,hd (.inr AU) k,hd (.inr AU) j⟩
variable {b6:Nat}{V:World}
theorem am4{l:List (Int×Int)}(a:eZ B V L)(p:xN l D (fun _=>n) L cs)(c:af V b6 cs 48)(hl:l.length<=1000)(ht:∀r i,r<n->i<l.length->(D r i).text.size<=1000000):
 iB V (.slice (some ⟨b6,0,none⟩) l.length l.length) (pC l D n):=by
 have o:(pC l D n).length=l.length:=by simp[pC]
 refine⟨⟨_,_,by rw[o],Ay,fun i hi=>⟨_,_,rfl,?_⟩⟩,fun b h=>by cases h;exact⟨_,_,c⟩⟩;rw[o]at hi;have s:(pC l D n)[i]'Ay=sE l[i] (D · i) n:=by simp[pC,hi]
 rw[s];obtain⟨bQ,vs,f,ap,a1,u,t,q,m,g,k⟩:=p.sC i hi;refine⟨bQ,vs,f,?_,?_,?_,?_,?_,⟨?_,?_,?_⟩,tt (show V.ownsRow _ 2 1 bQ (qA l[i].1 (D · i) n).length _ from a.at m),tt (show V.ownsRow _ 9 1 vs (qB l[i].1 (D · i) n).length _ from a.at g),tt (show V.ownsRow _ 4 1 f (vh (D · i) n).length _ from a.at k)⟩
 ·show V.cell? _=_;rw[c.bT.1,show 0+i*5+0=i*5 by omega,ap];rfl
 ·show V.cell? _=_;rw[c.bT.1,show 0+i*5+1=i*5+1 by omega,a1];rfl
 ·show V.cell? _=_;rw[c.bT.1,show 0+i*5+2=i*5+2 by omega,u]
 ·show V.cell? _=_;rw[c.bT.1,show 0+i*5+3=i*5+3 by omega,t]
 ·show V.cell? _=_;rw[c.bT.1,show 0+i*5+4=i*5+4 by omega,q]
 ·refine I4 (show V.ownsRow _ 2 1 bQ (qA l[i].1 (D · i) n).length _ from a.at m) ?_ ?_
  ·grind[sE,qA]
  ·intro j e rd h0;by_cases d:l[i].1=3
   ·grind[sE]
   ·simp[sE,qA,d]at h0⊢;exact h0
 ·refine I4 (show V.ownsRow _ 9 1 vs (qB l[i].1 (D · i) n).length _ from a.at g) ?_ ?_
  ·grind[sE,qB]
  ·intro j e rd h0;by_cases d:l[i].1=3
   ·simp[sE,d]at e;simp[sE,qB,d]at h0⊢;exact⟨h0,AU⟩
   grind[sE]
 ·refine I4 (show V.ownsRow _ 4 1 f (vh (D · i) n).length _ from a.at k) ?_ ?_
  ·simp[sE,vh]
  ·intro j e rd h0;simp[sE,vh]at h0⊢;exact h0
section
@[simp] theorem aFP (a:Array Value) (w:World):Sem.run (ai prog true) (callFunc 22 a) w=.ok (.enter 22 a) w:=c8 (bl (upd:=true) func22 AS) AS a w
theorem atZ(h:¬ip L b):∃i,∃(hi:i<L.length),L[i].v.ownBlock=some b:=Classical.byContradiction fun c=>h fun i hi a=>AU
theorem ac4{c:World}{Y:TypeId->Prop}(h:eZ B W L)(f:eT Y W c)(d:∀i(h:i<L.length),Y L[i].e):eZ B c L:=h.kept fun g j=>by
 obtain⟨i,hi,a⟩:=atZ j;rcases(h.own i hi).2 with⟨k,-⟩|⟨g',cap,bp,e,-,b,-⟩
 ·rw[k]at a;cases a
 ·rw[e]at a;cases a;exact(f.cells _ _ _ _ b (d i hi)).trans b.symm
theorem ac5(h:e=2\/e=9\/e=4):¬tX e:=by unfold tX;grind
structure GU(B b6 t4 gI:Nat)(l:List (Int×Int))(D:Nat->Nat->bU)(m:Nat->Nat)(V:World)(L:List e8)(cs:Array Value):Prop where
 gU:eZ B V L
 e9:xN l D m L cs
 box:af V b6 cs 48
 aO:af V gI #[.slice (some ⟨b6,0,none⟩) l.length l.length] 25
 bS:af V t4 #[.slice none 0 0] 27
theorem GU.J_{c gI:Nat}{l:List (Int×Int)}{m:Nat->Nat}{b:World}(h:GU B b6 c gI l D m V L cs)(a:eT (fun e=>¬tX e) V b):GU B b6 c gI l D m b L cs:=
 ⟨ac4 h.gU a fun i hi=>ac5 (h.e9.DD i hi),h.e9,a.cells _ _ _ _ h.box (by grind[tX]),a.cells _ _ _ _ h.aO (by grind[tX]),a.cells _ _ _ _ h.bS (by grind[tX])⟩
def l8(rs:List dY)(t i:Nat):bU:=((rs[t]?.map (·.2)).getD [])[i]?.getD g3
theorem at0{l:List (Int×Int)}(D:Nat->Nat->bU)(a:cs.size=l.length*5)(b:CY cs l l.length):xN l D (fun _=>0) ((List.range (3*l.length)).map fun i=>⟨if i % 3=0 then 2 else if i % 3=1 then 9 else 4,.slice none 0 0,[]⟩) cs:=by
 refine⟨a,fun i hi=>?_,fun i hi=>?_⟩
 ·obtain⟨ap,a1,e,d,c⟩:=b i hi hi;refine⟨_,_,_,ap,a1,e,d,c,?_,?_,?_⟩
  ·grind[qA]
  ·grind[qB]
  grind[vh]
 grind
theorem at1(B:Nat)(w:World)(n:Nat)(e:Nat->TypeId):eZ B w ((List.range n).map fun i=>⟨e i,.slice none 0 0,[]⟩):=by
 refine⟨fun i hi=>?_,fun i j hi b g a c=>?_⟩
 ·grind[World.ownsRow_nil]
 grind[Value.ownBlock]
attribute [local go_sem] Oper.semAt_some
theorem at2(l:List (Int×Int))(v:Value)(rs:List dY){gf:Nat}{lb:Array Value}(w:World)(hv:fh w v l)(hl:l.length<=1000)(SD:rs.length<=1000)(ly:∀r∈rs,r.2.length=l.length)(GV:∀r∈rs,∀d∈r.2,d.text.size<=1000000)
 (AJ:∀args w,(callFunc gf args).run (ai prog true) w=.ok (.enter gf args) w) (uU:∀n,MY tX n (ai prog true) gf lb (I2 w rs) rs.length w.heap.size w):
 Calls (ai prog true) 22 #[v,.func (.func gf) #[] lb] w fun e w'=>∃v',e=.returned (.agg #[v'])/\iB w' v' (pC l (l8 rs) rs.length)/\Below w.heap.size w w':=by
 obtain⟨fV,dI,rfl,-,-⟩:=id hv;have v_:Hid (fh w _ l):=hv;have ac6:Hid _:=ly;have ac7:Hid _:=GV;clear hv ly GV;refine(callsIn_wide (n:=3)).1 ?_;refine callsIn_of_wp_marks (bl (upd:=true) func22 AS) rfl trivial ?_;simp[Array.replicate_succ];gi_wp2_with (refine⟨trivial,(callsIn_wide.2 (ajV l _ _ (v_.out.mono s3 (bC.cW ((Below.refl _ w).alloc AU _))) Ay)).mono ?_⟩;rintro e w1 ⟨b6,cs0,rfl,ca,hsz,Ih,oc,bm⟩)
 have Ua:af w1 w.heap.size #[.slice none 0 0] 27:=(af.new w _ _).call bm;have gm:Below w.heap.size w w1:=Below.step bm ((Below.refl _ w).alloc AU _) Aa;have aiR:w.heap.size<w1.heap.size:=Ua.lt;have bY:Below w1.heap.size w1 (w1.alloc (.cells #[.slice (some ⟨b6,0,none⟩) l.length l.length] 25)):=(Below.refl _ w1).alloc AU _;have hst:GU (w1.heap.size+1) b6 w.heap.size w1.heap.size l (l8 rs) (fun _=>0) (w1.alloc (.cells #[.slice (some ⟨b6,0,none⟩) l.length l.length] 25)) _ cs0:=⟨at1 _ _ _ _,at0 _ hsz Ih,ca.alloc _,af.new _ _ _,Ua.alloc _⟩;refine amy (n:=3) (gf:=gf) (lb:=lb) (w0:=w) (n₀:=w.heap.size) (N:=rs.length) (Row:=I2 w rs) rfl AJ (uU _) (gm.trans (bY.mono Ay)) Bu
  (fun t V=>∃L cs,GU (w1.heap.size+1) b6 w.heap.size w1.heap.size l (l8 rs) (fun _=>t) V L cs)
  (fun t V wv h P=>by
   obtain⟨L,cs,h⟩:=h;exact⟨L,cs,h.J_ P⟩)
  AU
  (fun t x a' V=>∃O y gO pc A I D,af V O #[.slice y gO pc,.slice A I D] 78/\x=.agg #[.slice y gO pc,.slice A I D]/\I2 w rs t V x/\∃z,a'={tmps:=#[.slice fV l.length dI,.func (.func gf) #[] lb,undef,undef,.pointer (some ⟨w.heap.size,0,none⟩),.pointer (some ⟨w1.heap.size,0,none⟩),.pointer (some ⟨O,0,none⟩),undef,undef,.slice fV l.length dI,.slice (some ⟨b6,0,none⟩) l.length l.length,.func (.func gf) #[] lb,z,undef,undef,undef,undef,undef,undef,undef,undef,undef,undef,undef,undef,undef,undef,undef,undef,undef,undef,undef,undef],defers:=[]})
  (fun t x a' V wv h P=>by
   obtain⟨O,y,gO,pc,A,I,D,h1,h2,⟨h3,g5,p2,p3,p4,pi,vz,vv⟩,h4⟩:=h;exact⟨O,y,gO,pc,A,I,D,P.cells _ _ _ _ h1,h2,⟨h3,g5,p2,p3,p4,pi,vz,fun _ _ _ u=>Dw P (vv _ _ _ u)⟩,h4⟩)
  ?assign ?body ?done
 case assign=>
  rintro aW t x V K- -⟨F,y,pc,A,D,rfl,uT,iK⟩ hK;gi_wp2
  have gK:Below V.heap.size V (V.alloc (.cells #[.slice y rs[t].1.length pc,.slice A rs[t].2.length D] 78)):=(Below.refl _ V).alloc AU _;exact hK _ _ gK ⟨V.heap.size,_,_,_,_,_,_,af.new V _ _,rfl,⟨F,y,pc,A,D,rfl,uT,fun _ _ _ u=>bC.cW gK _ _ _ (iK _ _ _ u)⟩,_,rfl⟩
 case body=>
  rintro aW t x a' V ⟨aFQ,sY,ac8⟩ hlt ⟨O,y,gO,pc,A,I,D,at3,rfl,⟨F,aFR,aFS,aFT,aFU,at4,uT,iK⟩,z,rfl⟩ nv;cases at4;have ac9:rs[t].2.length=l.length:=ac6.out _ AU;have Ga:Hid _:=uT;have Ub:Hid _:=ac9;have at5:Hid _:=ac8;have s:Hid (b6<w1.heap.size):=ca.lt;have Uc:Hid (w.heap.size<b6):=by unfold Hid;simp at oc;omega
  have at6:Hid _:=iK;obtain⟨db,dA,cY⟩:=at3.all;clear uT ac9 ac8 iK uU hst ca bY gm bm Ih hsz Ua oc;gi_wp2
  gi_loopw [16] (fun p wr=>∃(k:Nat)(L:List e8)(cs:Array Value),k<=l.length/\p=.int .i64 k/\GU (w1.heap.size+1) b6 w.heap.size w1.heap.size l (l8 rs) (fun i=>if i<k then t+1 else t) wr L cs/\KeepsOthers V wr/\Below w.heap.size V wr/\eT tX V wr/\bC w wr)
   (fun i _=>l.length-(intOf i).toNat)
  case atStart=>exact⟨0,_,_,Nat.zero_le _,rfl,by simpa using at5.out,KeepsOthers.refl _,Below.refl _ _,.sB ⟨Nat.le_refl _,AU⟩,at6.out⟩
  case round=>
   obtain⟨k,L,cs,P,rfl,H,uV,vn,MZ,ac_⟩:=hrel;have q:Hid _:=H;have aFV:w1.heap.size<wr.heap.size:=q.out.aO.lt;have ada:Hid (KeepsOthers V wr):=uV;have Nt:Hid (Below w.heap.size V wr):=vn;have adb:Hid (eT tX V wr):=MZ;have Ka:Hid (bC w wr):=ac_;clear H uV vn MZ ac_;by_cases IK:k<l.length
   ·obtain⟨ol,aFW,at7,-,b9⟩:=id Ga.out;cases at7;have at8:k<rs[t].2.length:=by have:=Ub.out;omega
    obtain⟨b,off,rfl,dw,d1,gV,fS,-⟩:=b9 k at8;simp at dw;have e0:=Ka.out _ _ _ dw;have e1:=Ka.out _ _ _ d1;have e2:=Ka.out _ _ _ gV;have e3:=Ka.out _ _ _ fS;have QH:=gX e0;have ql:(0:Int)<=(k:Int):=Ay;have s7:(k:Int)<(l.length:Int):=Ay;have hD:l8 rs t k=rs[t].2[k]:=by grind[l8]
    have adc:Hid _:=hD;have od:Below wr.heap.size wr (wr.alloc (.cells #[.bool rs[t].2[k].fj,.int .i64 rs[t].2[k].cb,.int .i64 rs[t].2[k].cE,.string rs[t].2[k].text] 95)):=(Below.refl _ wr).alloc AU _;have ww:Hid _:=od;have a:Hid _:=q.out.J_ (.sB (.below od));have On:Hid _:=af.new wr #[.bool rs[t].2[k].fj,.int .i64 rs[t].2[k].cb,.int .i64 rs[t].2[k].cE,.string rs[t].2[k].text] 95;have pr:(rs[t].2.length:Int)=(l.length:Int):=by have:=Ub.out;omega
    clear dw d1 gV fS b9 hD od;gi_wp2
    have NA:Hid ((wr.alloc (.cells #[.bool rs[t].2[k].fj,.int .i64 rs[t].2[k].cb,.int .i64 rs[t].2[k].cE,.string rs[t].2[k].text] 95)).heap.size=wr.heap.size+1):=by unfold Hid;simp
    clear e0 e1 e2 e3;generalize wr.alloc (.cells #[.bool rs[t].2[k].fj,.int .i64 rs[t].2[k].cb,.int .i64 rs[t].2[k].cE,.string rs[t].2[k].text] 95)=m at *;obtain⟨bQ,vs,I,ap,a1,bz,cG,ej,gD,qC,lF⟩:=a.out.e9.sC k IK;obtain⟨Br,ny,rfl⟩:=s4 (show m.ownsRow _ 2 1 bQ (qA l[k].1 (l8 rs · k) _).length _ from a.out.gU.at gD);obtain⟨g5,q1,rfl⟩:=s4 (show m.ownsRow _ 9 1 vs (qB l[k].1 (l8 rs · k) _).length _ from a.out.gU.at qC);obtain⟨p2,dk,rfl⟩:=s4 (show m.ownsRow _ 4 1 I (vh (l8 rs · k) _).length _ from a.out.gU.at lF);have kT:=amO a.out.e9 (w:=m.drew) (B:=w1.heap.size+1) ⟨a.out.gU.own,a.out.gU.apart⟩ (by have:=a.out.aO.lt;simp;omega) IK AU (by simp;rw[adc.out];exact ac7.out _ (List.getElem_mem F) _ AU) bz cG ej;simp only[Nat.lt_irrefl,if_false]at kT;rw[adc.out]at kT;have HC:Hid _:=kT;obtain⟨f1,f2,f3⟩:=a.out.box.all;have g0:m.cell? ⟨b6,k*5,none⟩=_:=(f1 _).trans ap;have g1:m.cell? ⟨b6,k*5+1,none⟩=_:=(f1 _).trans a1;have fR:m.cell? ⟨b6,k*5+2,none⟩=_:=(f1 _).trans bz;have gL:m.cell? ⟨b6,k*5+3,none⟩=_:=(f1 _).trans cG;have ka:m.cell? ⟨b6,k*5+4,none⟩=_:=(f1 _).trans ej;obtain⟨Ud,Ue,Uf⟩:=a.out.aO.all;obtain⟨mN,qf,at9⟩:=af.all (show af m wr.heap.size _ _ from On.out);have Ju:∀f,tb L m.drew f->af f b6 cs 48/\af f w1.heap.size #[.slice (some ⟨b6,0,none⟩) l.length l.length] 25/\af f w.heap.size #[.slice none 0 0] 27:=fun f hF=>
     ⟨(hF.block b6 a.out.box.lt (a.out.gU.oa (.inr (by have:=s.out;omega)))).trans a.out.box,(hF.block _ a.out.aO.lt (a.out.gU.oa AU)).trans a.out.aO,(hF.block _ a.out.bS.lt (a.out.gU.oa AU)).trans a.out.bS⟩
    have vQ:Hid _:=Ju;have M:Hid _:=a.out.e9.size;clear kT ap a1 bz cG ej gD qC lF f1 f2 Ju;refine amX BB BB (Gd (C:=fun W=>af W w1.heap.size #[.slice (some ⟨b6,0,none⟩) l.length l.length] 25/\af W wr.heap.size #[.bool rs[t].2[k].fj,.int .i64 rs[t].2[k].cb,.int .i64 rs[t].2[k].cE,.string rs[t].2[k].text] 95) _ _ _ _ ?_);have J:Hid (af m.drew w1.heap.size #[.slice (some ⟨b6,0,none⟩) l.length l.length] 25/\af m.drew wr.heap.size #[.bool rs[t].2[k].fj,.int .i64 rs[t].2[k].cb,.int .i64 rs[t].2[k].cE,.string rs[t].2[k].text] 95):=⟨a.out.aO,On.out⟩;refine wx (i:=1) (v:=.int .i64 k) rfl BB BB BB K3 J.out ⟨B2,fun W _=>BD,AU,fun _=>rfl⟩ ?_;refine wx (i:=3) (v:=.int .i64 k) rfl BB BB BB K3 J.out ⟨B2,fun W _=>BD,AU,fun _=>rfl⟩ ?_;refine wx (i:=0) (v:=.slice (some ⟨b6,0,none⟩) l.length l.length) rfl BB BB BB K3 J.out ⟨B2,fun W Q=>by obtain⟨dn,ep,mC⟩:=Q.1.all;go_simp,AU,fun _=>rfl⟩ ?_;refine wx (i:=2) (v:=.slice (some ⟨b6,0,none⟩) l.length l.length) rfl BB BB BB K3 J.out ⟨B2,fun W Q=>by obtain⟨dn,ep,mC⟩:=Q.1.all;go_simp,AU,fun _=>rfl⟩ ?_;refine wx (i:=6) (v:=ib rs[t].2[k]) rfl BB BB BB K3 J.out ⟨B2,fun W Q=>by obtain⟨dn,ep,mC⟩:=Q.2.all;go_simp,AU,fun _=>rfl⟩ ?_;refine j9 (i:=4) BB rfl fun K hK=>?_;go_simp
    refine hK _ _ J.out ?_;clear hK K;refine j9 (i:=5) BB rfl fun K hK=>?_;go_simp
    refine hK _ _ J.out ?_;clear hK K;refine j9 (i:=7) BB rfl fun K hK=>?_;go_simp
    refine⟨trivial,(callsIn_wide.2 HC.out).mono ?_⟩;rintro e f ⟨r0,n0,cu,r1,gH,c1,r2,gj,bH,L',rfl,ade,adf,hF⟩;obtain⟨E,Ug,Z⟩:=vQ.out f hF;have Uh:af f wr.heap.size #[.bool rs[t].2[k].fj,.int .i64 rs[t].2[k].cb,.int .i64 rs[t].2[k].cE,.string rs[t].2[k].text] 95:=(hF.block _ Bp (M4 a.out.gU fun c e z u i hi he=>by
     have j:af m wr.heap.size _ _:=On.out;unfold af at j;rw[j]at u;cases u;rcases a.out.e9.DD i hi with h|h|h<;>rw[h]at he<;>exact absurd he AW)).trans On.out
    refine hK _ _ ⟨Ug,Uh⟩ ?_;clear hK K g0 g1 fR gL ka Ud Ue Uf mN qf at9;have i0:f.cell? ⟨b6,k*5,none⟩=some (cs[k*5]'JG):=JO;have i1:f.cell? ⟨b6,k*5+1,none⟩=some (cs[k*5+1]'JG):=JO;have i2:f.cell? ⟨b6,k*5+2,none⟩=some (cs[k*5+2]'JG):=JO;have i3:f.cell? ⟨b6,k*5+3,none⟩=some (cs[k*5+3]'JG):=JO;have i4:f.cell? ⟨b6,k*5+4,none⟩=some (cs[k*5+4]'JG):=JO;have i5:=E.bT.2;have X:Hid (af f b6 cs 48):=E;have Ui:Hid (af f w1.heap.size #[.slice (some ⟨b6,0,none⟩) l.length l.length] 25):=Ug;have aua:Hid (af f w.heap.size #[.slice none 0 0] 27):=Z;have U:Hid (af f wr.heap.size #[.bool rs[t].2[k].fj,.int .i64 rs[t].2[k].cb,.int .i64 rs[t].2[k].cE,.string rs[t].2[k].text] 95):=Uh;have z3:Hid _:=ade;have aub:Hid _:=adf;have Uj:Hid _:=hF;clear E Ug Z Uh ade adf hF;refine j9 (i:=8) BB rfl fun K hK=>?_;go_simp
    refine hK _ _ ⟨Ui.out,U.out⟩ ?_;clear hK K;refine j9 (i:=9) BB rfl fun K hK=>?_;go_simp
    refine hK _ _ ⟨((((Ui.out.fu Hz _).fu Hz _).fu Hz _).fu Hz _).fu Hz _,((((U.out.fu Hz _).fu Hz _).fu Hz _).fu Hz _).fu Hz _⟩ ?_;clear hK K;refine Ge BB ?_ _;clear i0 i1 i2 i3 i4 i5;have hA0:KeepsOthers wr f:=(amx ww.out).trans (by have j:=amQ Uj.out ⟨a.out.gU.own,a.out.gU.apart⟩;exact⟨j.size,j.same⟩);have hA1:eT tX wr f:=(eT.sB (.below ww.out)).trans (by have j:=amR (Y:=tX) Uj.out ⟨a.out.gU.own,a.out.gU.apart⟩ fun i hi=>ac5 (a.out.e9.DD i hi);exact⟨j.size,j.cells⟩);have hA2:Below w.heap.size wr f:=(ww.out.mono Ay).trans (by have j:=amS (n:=w.heap.size) Uj.out ⟨a.out.gU.own,a.out.gU.apart⟩ Ay Ip;exact⟨j.os,j.tape,j.output,j.size,j.block⟩);have auc:Hid _:=hA0;have aud:Hid _:=hA1;have S:Hid _:=hA2;clear hA0 hA1 hA2;gi_wp2
    go_roundw
    case rel=>
     refine⟨_,_,.int .i64 ((k:Int)+1),⟨k+1,Ay,Aa,⟨L',tR cs k (.int .i64 l[k].1) (.int .i64 l[k].2) (.slice r0 n0 cu) (.slice r1 gH c1) (.slice r2 gj bH),⟨?_,?_,?_,?_,?_⟩⟩,?_,?_,?_,?_⟩,rfl,rfl,rfl⟩
     ·exact z3.out.kept fun g hg=>M5 _ _ _ _ _ _ _ _ fun e=>hg (e▸z3.out.oa (.inr (by have:=s.out;omega)))
     ·refine aub.out.congr fun i hi=>?_;grind[yL]
     ·exact am0 X.out _ _ _ _ _ _
     ·exact(M5 _ _ _ _ _ _ _ _ (by have:=s.out;omega)).trans Ui.out
     ·exact(M5 _ _ _ _ _ _ _ _ (by have:=Uc.out;omega)).trans aua.out
     ·exact(ada.out.trans auc.out).trans (am1 ..)
     ·exact(Nt.out.trans S.out).trans (Zx _ (by have:=Uc.out;omega) _ _ _ _ _ _)
     ·exact(adb.out.trans aud.out).trans (am2 X.out (by grind[tX]) _ _ _ _ _ _)
     ·exact fun b o x u=>((S.out.trans (Zx _ (by have:=Uc.out;omega) _ _ _ _ _ _)).cell (p:=⟨b,o,none⟩) (gX u)).trans (Ka.out _ _ _ u)
    case measure=>simp[intOf];omega
   ·have fv:k=l.length:=by omega
    have pr:(rs[t].2.length:Int)=(l.length:Int):=by have:=Ub.out;omega
    gi_wp2
    refine⟨ada.out,Nt.out,adb.out,L,cs,q.out.gU,q.out.e9.congr fun i hi=>?_,q.out.box,q.out.aO,q.out.bS⟩;grind
 case done=>
  rintro V ⟨L,cs,H⟩ ao hK;obtain⟨q1,dk,q3⟩:=H.aO.all;obtain⟨jv,lR,mn⟩:=H.bS.all;have q:Hid _:=H;have St:Hid _:=hK;have cP:Hid _:=ao;clear H ao hK;gi_wp2
  have hne:(w1.alloc (.cells #[.slice (some ⟨b6,0,none⟩) l.length l.length] 25)).heap.size≠w.heap.size:=Bu;have Uk:=(Below.heap_setCell V ⟨w.heap.size,0,none⟩ (.slice (some ⟨b6,0,none⟩) l.length l.length) _ hne).trans St.out;refine⟨Aa,.inl ⟨_,_,rfl,run_takeDeferred Uk,?_⟩⟩;have acT:w.heap.size<b6:=by simp at oc;omega
  have kk:eT (fun e=>e≠27) V ((V.setCell ⟨w.heap.size,0,none⟩ (.slice (some ⟨b6,0,none⟩) l.length l.length)).putObj (w1.alloc (.cells #[.slice (some ⟨b6,0,none⟩) l.length l.length] 25)).heap.size (.deferred none)):=
   (eT.set q.out.bS AU _ _).trans (.sB (L6 Uk))
  refine⟨.agg #[.slice (some ⟨b6,0,none⟩) l.length l.length],?_,_,rfl,am4 (ac4 q.out.gU kk fun i hi=>?_) q.out.e9 (kk.cells _ _ _ _ q.out.box AW) hl ?_,?_⟩
  ·have aue:(V.setCell ⟨w.heap.size,0,none⟩ (.slice (some ⟨b6,0,none⟩) l.length l.length)).heap[w.heap.size]?=some (.cells #[.slice (some ⟨b6,0,none⟩) l.length l.length] 27):=q.out.bS.set _ _;have R:((V.setCell ⟨w.heap.size,0,none⟩ (.slice (some ⟨b6,0,none⟩) l.length l.length)).putObj (w1.alloc (.cells #[.slice (some ⟨b6,0,none⟩) l.length l.length] 25)).heap.size (.deferred none)).cell? ⟨w.heap.size,0,none⟩=some (.slice (some ⟨b6,0,none⟩) l.length l.length):=Dw (L6 Uk) (((af.bT (T:=27) aue).1 0).trans rfl);simp at R⊢;simp[results,results22,go_sem,R]
  ·rcases q.out.e9.DD i hi with h|h|h<;>rw[h]<;>decide
  ·intro r i F hi;simp[l8,List.getElem?_eq_getElem F];have QG:=ac6.out _ (List.getElem_mem F);rw[List.getElem?_eq_getElem Ay];exact ac7.out _ (List.getElem_mem F) _ AU
  ·exact((gm.trans (bY.mono Ay)).trans cP.out).trans ((Below.setCell (Below.refl _ V) (p:=⟨w.heap.size,0,none⟩) AU _).trans (zD _ Bu))
end
end cA
end Go.Proofs.YtoehnnefaeoeoaaGreat
