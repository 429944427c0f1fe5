import Derived.Test.YtmlddfohidhniaaGreatPAJ
import Derived.Test.YtmlddfohidhniaaGreatPAL
import Derived.Test.YtmlddfohidhniaaGreatPAM
set_option linter.all false
set_option maxRecDepth 100000
set_option maxHeartbeats 16000000
namespace Go.Proofs.YtmlddfohidhniaaGreat
open Go.Proofs.Tryz
namespace cq
open RowKit
variable{i l n:Nat}{P:b4}{ops:eY}{Q:uai}{K:uag}{a:Act}{w:aS}
def anJ{K':uag}(e:∀(i:Nat)(o:Oper),ops[i]?=some o->∀c,o.op≠ .defer c)(hK:∀a w,K a w->K' a w)(h:wpOpIn Fence.wide n P ops Q i K a w):wpOpIn (Fence.wide.inRound l) n P ops Q i K' a w:=by
 have h:=wpOpIn_mono (λa w=>hK a w) h;unfold wpOpIn at *;cases d:ops[i]? with
 |none=>grind
 |some o=>
  simp only[d]at h⊢;split
  .rename_i f;simp[f]at h;refine⟨h.1,?_⟩;have b:=h.2;rw[Oper.semAt_eq _ _ _ (e i o d)]at b⊢;generalize(execOp a.eval o).run P w=r at b⊢;cases r with|ok x w'=>cases x<;>exact b|halt x w'=>cases x<;>exact b
  simp_all
def anK{md:Region.Mode}(b:∀(i:Nat)(o:Oper),ops[i]?=some o->∀c,o.op≠ .defer c):∀(fuel:Nat)(listed:uat)(a:Act)(w:aS),wpAnyIn Fence.wide n P md ops Q fuel listed a w->wpAnyIn (Fence.wide.inRound l) n P md ops Q fuel listed a w:=by intro fuel;induction fuel with|zero=>intro listed a w h;exact h|succ fuel d=>exact λlisted a w h=>⟨h.1,λi hi=>anJ b AA (h.2 i hi)⟩
def Zz:Op->Bool
 | .defer _=>true
 | _=>false
def anL{id:Nat}(b:P.follows .mixedOrders=true)(hd:(ops.all λo=> !Zz o.op)=true)(h:wpAnyIn Fence.wide n P .any ops Q ops.size (Array.replicate ops.size false) a w.drew):(Code.region id ops true).wpIn (Fence.wide.inRound l) n P Q a w:=
 wpIn_region_any b (anK (λi o d c hc=>by
  grind[Zz]) _ _ _ _ h)
def pM(C:aS->Prop)(n:Nat)(P:b4)(ops:eY)(Q:uai):Nat->Array Bool->Act->aS->Prop
 |0,listed,a,w=>Region.ready .any ops listed=[]/\Q .normal a w
 |fuel+1,listed,a,w=>(Region.ready .any ops listed=[]->Q .normal a w)/\∀i∈Region.ready .any ops listed,wpOpIn Fence.wide n P ops Q i (λa' w'=>C w'/\pM C n P ops Q fuel (listed.setIfInBounds i true) a' w') a w
variable{C:aS->Prop}
def FP:∀(fuel:Nat)(listed:uat)(a:Act)(w:aS),pM C n P ops Q fuel listed a w->wpAnyIn Fence.wide n P .any ops Q fuel listed a w:=by intro fuel;induction fuel with|zero=>intro listed a w h;exact h|succ fuel b=>exact λlisted a w h=>⟨h.1,λi hi=>wpOpIn_mono AA (h.2 i hi)⟩
def sG(C:aS->Prop)(P:b4)(ops:eY)(o:Oper)(v:Value)(a:Act):Prop:=
 Region.wanted o (yielded ops a.tmps)=true/\(∀w,C w->(execOp a.eval o).run P w=.ok (.value v) w)/\(∀c,o.op≠ .defer c)/\∀w,o.about P w a.eval=none
variable{o:Oper}{v:Value}
def sG.op(hi:ops[i]?=some o)(b:sG C P ops o v a)(d:C w)(h:K (a.put o.dst v) w):wpOpIn Fence.wide n P ops Q i K a w:=by unfold wpOpIn;simp[hi,b.1,Oper.wpIn,Oper.semAt_eq _ _ _ b.2.2.1,b.2.1 w d,Oper.uponIn];exact⟨λf c=>(by rw[b.2.2.2 w]at c;cases c),h⟩
theorem sG.put(c:sG C P ops o v a)(hs:∀cs b,o.op≠ .select cs b){d:Option Tmp}(u:Value)(e:∀t,d=some t->t ∉ o.looksAt ops):sG C P ops o v (a.put d u):=
 ⟨by rw[wanted_put o a d u e];exact c.1,λw f=>by rw[execOp_put o hs a d u e];exact c.2.1 w f,c.2.2.1,λw=>by rw[about_put o w a d u e];exact c.2.2.2 w⟩
variable{cn:Oper}
def anM{j:Nat}{oj:Oper}(o:ops[j]?=some oj)(l:cn.apart ops oj=true)(k:∀cs b,cn.op≠ .select cs b)(s:∀cs b,oj.op≠ .select cs b)(t:∀c a w,Q (.panic c) (a.put cn.dst v) w->Q (.panic c) a w)(e:sG C P ops cn v a)(h:wpOpIn Fence.wide n P ops Q j K (a.put cn.dst v) w):
 wpOpIn Fence.wide n P ops Q j (λa' w'=>sG C P ops cn v a'/\K (a'.put cn.dst v) w') a w:=by
 obtain⟨g,y,p⟩:=Oper.apart_spec l;have keep:∀(a:Act),sG C P ops cn v a->∀u,sG C P ops cn v (a.put oj.dst u):=λa e u=>e.put k u p;have q:∀d,sG C P ops cn v {a with defers:=d::a.defers}:=λd=>⟨e.1,e.2.1,e.2.2.1,e.2.2.2⟩;unfold wpOpIn at *;simp only[o]at *;rw[wanted_put oj a cn.dst v g,about_put oj w a cn.dst v g]at h;split
 .rename_i m;simp[m]at h;unfold Oper.wpIn at *;rw[about_put oj w a cn.dst v g]at h;refine⟨h.1,?_⟩;have h:=h.2;have i:Fence.wide.round=none:=rfl;rw[i,Oper.semAt_none,execOp_put oj s a cn.dst v g]at h;rw[i,Oper.semAt_none];generalize(execOp a.eval oj).run P w=r at *;cases r with
  |ok x w'=>
   cases x<;>simp only[Oper.uponIn]at h⊢
   case value u=>grind[Act.put_comm]
   case skip=>grind[Act.put_comm]
   case defer d=>
    grind[Act.put_comm,Act.put_defers]
   case enter f args=>
    grind[CallsIn.mono,Act.put_comm]
   case row row args=>grind[Act.put_comm]
   grind[RoundIn.mono,Act.put_comm]
  |halt x w'=>
   cases x<;>simp only[Oper.uponIn]at h⊢
   grind
 grind[Act.put_comm]
def anN(hi:ops[i]?=some cn)(K:∀(j:Nat)(o:Oper) cs b,ops[j]?=some o->o.op≠ .select cs b)(q:∀c a w,Q (.panic c) (a.put cn.dst v) w->Q (.panic c) a w):
 ∀(fuel:Nat)(listed:uat)(a:Act)(w:aS),
  (∀j oj,ops[j]?=some oj->j≠i->listed.getD j true=false->(∀e∈oj.after,Region.binds .any e=true->e.on≠i)->cn.apart ops oj=true)->
  i∈Region.ready .any ops listed->sG C P ops cn v a->C w->pM C n P ops Q fuel (listed.setIfInBounds i true) (a.put cn.dst v) w->pM C n P ops Q (fuel+1) listed a w:=by
 intro fuel;induction fuel with
 |zero=>
  intro listed a w _ p g f H;refine⟨AA,λj h=>?_⟩;by_cases d:j=i
  .subst d;exact g.op hi f ⟨f,H⟩
  .have:=ready_mono h d;rw[H.1]at this;grind
 |succ fuel r=>
  intro listed a w A p g f H;refine⟨AA,λj h=>?_⟩;by_cases d:j=i
  .subst d;exact g.op hi f ⟨f,H⟩
  .have u:=H.2 j (ready_mono h d);obtain⟨x,oj,z,J⟩:=mem_ready.1 h;have E:∀e∈oj.after,Region.binds .any e=true->e.on≠i:=λe F I s=>by grind[mem_ready]
   have t:=anM z AA AA AA q g u;have y:∀k ok,ops[k]?=some ok->k≠i->(listed.setIfInBounds j true).getD k true=false->(∀e∈ok.after,Region.binds .any e=true->e.on≠i)->cn.apart ops ok=true:=λk ok hk B L l=>by
    refine A k ok hk B ?_ l;by_cases D:j=k
    .grind
    simp_all
   refine wpOpIn_mono (λa' w' m=>⟨m.2.1,r (listed.setIfInBounds j true) a' w' y (ready_mono p (Ne.symm d)) m.1 m.2.1 ?_⟩) t;grind[Array.setIfInBounds_comm]
variable{fuel:Nat}
def tQ{listed:uat}(hi:ops[i]?=some cn)(hs:Region.noSelect ops=true)(e:Region.free .any ops listed i=true)(g:(Region.ready .any ops listed).contains i=true)(b:∀c a w,Q (.panic c) (a.put cn.dst v) w->Q (.panic c) a w)(f:C w)(d:sG C P ops cn v a)(h:pM C n P ops Q fuel (listed.setIfInBounds i true) (a.put cn.dst v) w):pM C n P ops Q (fuel+1) listed a w:=
 anN hi (Region.noSelect_spec hs) b fuel listed a w (Region.free_spec hi e) AA d f h
def jY{listed:uat}(b:Region.ready .any ops listed=[i])(c:ops[i]?=some o)(h:∀K':Act->aS->Prop,(∀a w,C w->pM C n P ops Q fuel (listed.setIfInBounds i true) a w->K' a w)->if Region.wanted o (yielded ops a.tmps)=true then Oper.wpIn Fence.wide n P o a w K' Q else(∀f,o.about P w a.eval=some f->Fence.wide.fn f)/\K' (a.put o.dst undef) w):pM C n P ops Q (fuel+1) listed a w:=
 ⟨AA,by
  rw[b];intro j d;cases List.mem_singleton.1 d;exact wpOpIn_step c λK' hK=>h K' AA⟩
def FQ{listed:uat}(b:Region.ready .any ops listed=[])(h:Q .normal a w):∀fuel,pM C n P ops Q fuel listed a w
 |0=>⟨b,h⟩
 | _+1=>⟨λ_=>h,AA⟩
open Shelf ax bS
abbrev er(w:aS)(b k:Nat)(cC a1 bc bz bO:Value):aS:=((((w.setCell ⟨b,k*5,none⟩ cC).setCell ⟨b,k*5+1,none⟩ a1).setCell ⟨b,k*5+2,none⟩ bc).setCell ⟨b,k*5+3,none⟩ bz).setCell ⟨b,k*5+4,none⟩ bO
variable{b:Nat}{cs:dp}{T:g4}
def ZA(h:ai w b cs T)(k:Nat)(a a1 d c e:Value):ai (er w b k a a1 d c e) b (rr cs k a a1 d c e) T:=((((h.set _ _).set _ _).set _ _).set _ _).set _ _
theorem M5(w:aS)(b k:Nat)(c a1 e d f:Value){x:Nat}(a:x≠b):(er w b k c a1 e d f).heap[x]?=w.heap[x]?:=
 (vaq _ _ _ _ a).trans ((vaq _ _ _ _ a).trans ((vaq _ _ _ _ a).trans ((vaq _ _ _ _ a).trans (vaq _ _ _ _ a))))
def anO(w:aS)(b k:Nat)(a a1 d c e:Value):KeepsOthers w (er w b k a a1 d c e):=
 ((((vcv _ _ _).trans (vcv _ _ _)).trans (vcv _ _ _)).trans (vcv _ _ _)).trans (vcv _ _ _)
def anP(h:ai w b cs T){Y:ubm}(i:¬Y T)(k:Nat)(a a1 f d g:Value):hM Y w (er w b k a a1 f d g):=
 ⟨BK,λx c e z j y=>by
  grind[ai,M5]⟩
def SJ(w:aS)(hn:n<=b)(k:Nat)(a a1 d c e:Value):Below n w (er w b k a a1 d c e):=
 (((((vaa n w).setCell (p:=⟨b,_,none⟩) hn _).setCell (p:=⟨b,_,none⟩) hn _).setCell (p:=⟨b,_,none⟩) hn _).setCell (p:=⟨b,_,none⟩) hn _).setCell (p:=⟨b,_,none⟩) hn _
def uY.congr{l:uac}{D:Nat->Nat->cR}{m a:uas}{L:List e5}(h:uY l D m L cs)(b:∀i,i<l.length->m i=a i):uY l D a L cs:=
 ⟨h.size,λi hi=>by rw[<-b i hi];exact h.tP i hi,h.Cl⟩
def oU(t:ubl)(D:Nat->cR)(n:Nat):aG:=
 ⟨t.1,t.2,if t.1=3 then []else(List.range n).map λr=>(D r).num,if t.1=3 then(List.range n).map λr=>(D r).text else [],(List.range n).map λr=>(D r).dH⟩
def kz(l:uac)(D:Nat->Nat->cR)(n:Nat):List aG:=(List.range l.length).map λi=>oU (l[i]?.getD (0,0)) (D · i) n
variable{B:Nat}{W:aS}{e:g4}
def x7{ao:Type}{R:aS->(Nat->Option Value)->ao->Prop}{xs:uad}{a:List ao}(h:W.ownsRow B e 1 v xs.length xs)(b:a.length=xs.length)(l:∀i(h:i<a.length),∀rd:Nat->Option Value,rd 0=some (xs[i]'(b▸h))->R W rd a[i]):aX W 1 R v a:=by
 obtain⟨-,⟨hv,hn⟩|⟨g,cap,bd,hv,-,hc,f,m,-,j⟩⟩:=h
 .grind[aX.nil]
 .refine⟨_,_,by rw[hv,b],Fu,λi hi=>⟨_,_,Y,l i hi _ ?_⟩⟩;have d:i<xs.length:=b▸hi;have k:xs[i]?=some xs[i]:=vag d;have c:(bd.toList.take (xs.length*1))[i]?=xs[i]?:=by rw[j]
  rw[List.getElem?_take_of_lt AP,Array.getElem?_toList]at c;have b0:ai W g bd e:=hc;show W.cell? (.a g (0+i*1+0))=_;rw[b0.rules.1,show 0+i*1+0=i by omega,c,k]
def oV(w:aS)(v:Value)(e:g4):Prop:=∀b,v.ownBlock=some b->∃c z,w.heap[b]?=some (.cells c e z)
def qw{xs:uad}(h:W.ownsRow B e 1 v n xs):oV W v e:=by
 intro b a;obtain⟨-,⟨hv,-⟩|⟨g,cap,bd,hv,-,hc,-⟩⟩:=h
 .rw[hv]at a;cases a
 .rw[hv]at a;cases a;grind
def anQ(w:aS)(rd:ual)(c:aG):Prop:=
 ∃bj vs aY,rd 0=some (.I c.kind)/\rd 1=some (.I c.bV)/\rd 2=some bj/\rd 3=some vs/\rd 4=some aY/\tf w bj vs aY c/\oV w bj 2/\oV w vs 9/\oV w aY 4
def ke(w:aS)(v:Value)(t:List aG):Prop:=aX w 5 anQ v t/\oV w v 53
def ke.iM{t:List aG}(h:ke w v t):nX w v t:=by obtain⟨⟨k,cap,hv,a,j⟩,-⟩:=h;refine⟨k,cap,hv,a,λi hi=>?_⟩;obtain⟨b,off,c,bj,vs,l,h0,g,f,e,d,m,-⟩:=j i hi;exact⟨b,off,c,bj,vs,l,h0,g,f,e,d,m⟩
def pN(e:g4):Prop:=e=53\/e=2\/e=9\/e=4
variable{w':aS}
theorem ZB(hk:hM pN w w'){c:Nat}{off:Nat}(ht:oV w (.S b off l c) e)(a:pN e)(o:Nat):w'.cell? (.a b o)=w.cell? (.a b o):=by obtain⟨cs,z,h⟩:=ht b Y;have:=hk.cells _ _ _ _ h a;grind[World.cell?]
def SK{ao:Type}{R:aS->(Nat->Option Value)->ao->Prop}(g:∀w w' rd a x,(∀j v,rd j=some v->a j=some v)->R w rd x->R w' a x)(hk:hM pN w w')(ht:oV w v e)(d:pN e){xs:List ao}(h:aX w 1 R v xs):aX w' 1 R v xs:=by obtain⟨c,cap,rfl,b,f⟩:=h;refine⟨c,cap,Y,b,λi hi=>?_⟩;grind[ZB]
def ke.kept{t:List aG}(hk:hM pN w w')(h:ke w v t):ke w' v t:=by
 obtain⟨⟨y,cap,rfl,n,u⟩,ht⟩:=h;have hd:∀{v e},pN e->oV w v e->oV w' v e:=λl h b p=>by obtain⟨c,z,d⟩:=h b p;exact⟨c,z,hk.cells _ _ _ _ d l⟩
 refine⟨⟨y,cap,Y,n,λi hi=>?_⟩,hd J1 ht⟩;obtain⟨b,off,rfl,bj,vs,A,h0,d,s,r,q,f,k,j,g⟩:=u i hi;have key:∀o x,w.cell? (.a b o)=some x->w'.cell? (.a b o)=some x:=λo x m=>(ZB hk ht J1 o).trans m;exact⟨b,off,Y,bj,vs,A,key _ _ h0,key _ _ d,key _ _ s,key _ _ r,key _ _ q,⟨SK (R:=qb) Lc hk k (.inr J1) f.fU,SK (R:=Bo) (λ_ _ _ _ _ a h=>⟨a _ _ h.1,h.2⟩) hk j (.inr AA) f.eF,SK (R:=zC) Lc hk g (.inr AA) f.dk⟩,hd (.inr J1) k,hd (.inr AA) j,hd (.inr AA) g⟩
def anR{o:Nat}{l:uac}{D:Nat->Nat->cR}{V:aS}{L:List e5}(a:eU B V L)(hc:uY l D (λ_=>n) L cs)(c:ai V o cs 53)(v:l.length<=1000)(ht:∀r i,r<n->i<l.length->(D r i).text.size<=1000000):
 ke V (.S o 0 l.length l.length) (kz l D n):=by
 have k:(kz l D n).length=l.length:=by simp[kz]
 refine⟨⟨_,_,by rw[k],AP,λi hi=>⟨_,_,Y,?_⟩⟩,λb h=>by cases h;exact⟨_,_,c⟩⟩;rw[k]at hi;have p:(kz l D n)[i]'AP=oU l[i] (D · i) n:=by simp[kz,hi]
 rw[p];obtain⟨bj,vs,e,q,a1,t,s,u,m,g,f⟩:=hc.tP i hi;refine⟨bj,vs,e,?_,?_,?_,?_,?_,⟨?_,?_,?_⟩,qw (show V.ownsRow _ 2 1 bj (oS l[i].1 (D · i) n).length _ from a.at m),qw (show V.ownsRow _ 9 1 vs (oT l[i].1 (D · i) n).length _ from a.at g),qw (show V.ownsRow _ 4 1 e (sF (D · i) n).length _ from a.at f)⟩
 .show V.cell? _=_;rw[c.rules.1,show 0+i*5+0=i*5 by omega,q];rfl
 .show V.cell? _=_;rw[c.rules.1,show 0+i*5+1=i*5+1 by omega,a1];rfl
 .show V.cell? _=_;rw[c.rules.1,show 0+i*5+2=i*5+2 by omega,t]
 .show V.cell? _=_;rw[c.rules.1,show 0+i*5+3=i*5+3 by omega,s]
 .show V.cell? _=_;rw[c.rules.1,show 0+i*5+4=i*5+4 by omega,u]
 .refine x7 (show V.ownsRow _ 2 1 bj (oS l[i].1 (D · i) n).length _ from a.at m) ?_ ?_
  .grind[oU,oS]
  .intro j d rd h0;by_cases hk:l[i].1=3
   .grind[oU]
   .simp[oU,oS,hk]at h0⊢;exact h0
 .refine x7 (show V.ownsRow _ 9 1 vs (oT l[i].1 (D · i) n).length _ from a.at g) ?_ ?_
  .grind[oU,oT]
  .intro j d rd h0;by_cases hk:l[i].1=3
   .simp[oU,hk]at d;simp[oU,oT,hk]at h0⊢;exact⟨h0,AA⟩
   grind[oU]
 .refine x7 (show V.ownsRow _ 4 1 e (sF (D · i) n).length _ from a.at f) ?_ ?_
  .simp[oU,sF]
  .intro j d rd h0;simp[oU,sF]at h0⊢;exact h0
end cq
namespace gg
open Conc ConcM ax bp ag fq iu
section
section
variable{c:dD}
def aq1{Stop:Bool->ag.Lo At->aV->Prop}{mine:dh}{f:Nat}{p:uae}(eK:c.most<=1000000)(k:∀b,c.K b\/mine b->b≠c.st){w0:aS}{d:Frame}{cs:fV}(hc:d.mode=.returning)(e:(Conc.G d cs).status=.running)(i:∀w' g,ah (am (az c)) mine w0 w'->oc c.N g.al->bg (am (az c)) prog Stop false ⟨.idle,false,0,f,.work .free p⟩ g ⟨Conc.G d cs,w',mine⟩)(w:aS)(γ:ag.aO co)(j:ah (am (az c)) mine w0 w)(a7:oc c.N γ.al):
 bg (am (az c)) prog Stop false ⟨.own,true,0,f+8,.work .free p⟩ γ ⟨Conc.G ((baseD 91).at ⟨#[.P c.st 0,.U,.U,.U,.U,.U],[]⟩ [.code (f91.body.getD .skip)]) (d::cs),w,mine⟩:=by
 refine bg.seq (Z:=am (az c)) (Stop':=λ_(l:ag.Lo At) X=>l=(⟨.idle,false,0,f,.work .free p⟩:ag.Lo At)/\∃w',ah (am (az c)) mine w0 w'/\X=⟨Conc.G d cs,w',mine⟩) (I:=Fv c) Mw alK ?_ ?_ (bM.TL (A:=az c) (bR c) (a:=.work .free p) Kx eK k hc e (λw' g r=>.stop ⟨Y,w',r,Y⟩) w γ j) Y ⟨λh=>h,a7⟩
 .rintro m l X ⟨rfl,_⟩ h;exact h
 .rintro l γ X ⟨rfl,w',r,rfl⟩ hi;exact i w' γ r hi.2
end
end
end gg
namespace pT
open Conc RowKit Conc.Lib ConcR.Gen ConcM ax bp ag iu gg jd bM
def RN:prog.underlying 86=some (.slice 66):=by simp
theorem arM:(prog.info? 66).map (λi=>(i.zero,i.size,i.bytes))=some (some (.N),1,24):=by kernel_rfl
def RL{a:Act}{b:Frame}{o:Oper}{x y:uar}{N:Nat}(a7:N<=2000000)(c:o.op=.makeSlice 86 x y)(k:a.eval x=.I (N:Int))(j:a.eval y=.I (N:Int))(w:aS):
 (execOp a.eval o).run prog w=.ok (.value (.S w.heap.size 0 N N)) (w.alloc (.cells (madeCells #[.N] N) 66))/\listed prog b.fn a o w=#[]:=by
 obtain⟨i,hi,e⟩:=vaj.1 arM;simp at e;obtain⟨g,l,m⟩:=e;have f:(i.bytes:Int)*(N:Int)<=281474976710656:=AA;have d:=run_makeSlice (P:=prog) w 86 66 i (.N) RN hi g .i64 .i64 (N:Int) (N:Int) AP (Int.le_refl _) AA f AP;have h:=events_make (P:=prog) w 86 66 i (.N) RN hi g .i64 .i64 (N:Int) (N:Int) AP (Int.le_refl _) f AP AA #[];simp[l]at d;unfold listed execOp;simp only[c,k,j];constructor
 .simp[d];rfl
 .simp[h,vdy]
section
variable{ST:Bool->fb.Lo->aV->Prop}
def T4{S ak N:Nat}(x:0<ak)(a7:N=(S+ak-1) / ak)(hS:S<=1000000)(y:ak<=1000000){M:dh}{w0:aS}{bs:uap}:
 jJ prog ST true 49 #[.I (S:Int),.I (ak:Int)] (jL fb () M w0 bs) (λu p=>∃st cP,u=.P st 0/\p=jL fb () M w0 ((st,.cells #[.int .i32 0,.int .u32 0,.I (S:Int),.I (ak:Int),.I 0,.I 0,.S cP 0 N N,.N] 171)::(cP,.cells (madeCells #[.N] N) 66)::bs)):=by
 intro a4 aF aC aK aM aH csZ hK w γ hF;have l:=tZ.np;obtain⟨i,A,o⟩:∃i:Nat,IntKind.wrap .i64 ((S:Int)+(ak:Int))=(i:Int)/\qE (i=S+ak):=⟨S+ak,EX,Y⟩;obtain⟨g,z,t⟩:∃g:Nat,IntKind.wrap .i64 ((i:Int)-1)=(g:Int)/\qE (g=S+ak-1):=⟨S+ak-1,by grind[IntKind.wrap_i64],Y⟩;have hq:Int.tdiv (g:Int) (ak:Int)=(N:Int):=by grind[qE.out]
 have n:N<=2000000:=by rw[a7];exact vad (Nat.div_le_self _ _) AP
 replace a7:qE (N=(S+ak-1) / ak):=a7;have s:IntKind.wrap .i64 (N:Int)=(N:Int):=EX;have r:¬ak=0:=AP;rw[vds _ func49 Y];refine uD (γ:=()) tZ (λ_ _ h=>h) 200 _ _ _ trivial ?_;unfold jL at hF⊢;walk_nrmf f49
 repeat w_go af.on
 refine hX Y hF λd c m f a q k j hF=>?_;refine tB AA l Y hF (vbc Y Y Am (RL (b:=base 49) n Y Y Y a).1) Y (RL n Y Y Y a).2 (λe=>?_);clear hF;have hF:=e;clear e j k f c;generalize a.heap.size=cP at hF⊢;generalize a.alloc (.cells (madeCells #[.N] N) 66)=w3 at hF⊢;refine uD (γ:=()) tZ (λ_ _ h=>h) 200 _ _ _ trivial ?_;walk_nrm
 repeat w_go af.on
 refine hX Y hF λd c m f a q k j hF=>?_;refine tB AA l Y hF (vbc (v:=.P a.heap.size 0) (w':=a.alloc (.cells #[.int .i32 0,.int .u32 0,.I (S:Int),.I (ak:Int),.I 0,.I 0,.S cP 0 N N,.N] 171)) Y Y Am Ap) Y BH (λe=>?_);clear hF;have hF:=e;clear e j k f c;generalize a.heap.size=st at hF⊢;generalize a.alloc (.cells #[.int .i32 0,.int .u32 0,.I (S:Int),.I (ak:Int),.I 0,.I 0,.S cP 0 N N,.N] 171)=w3 at hF⊢;refine uD (γ:=()) tZ (λ_ _ h=>h) 200 _ _ _ trivial ?_;walk_nrm
 repeat w_go af.on
 u_in af.on hF
 refine goes_leave1 Y Y func49 Y ⟨ED,?_⟩;refine vai (λd c=>⟨Y,λm f=>?_⟩);replace hF:=hF.on c;simp_all[jL]
end
theorem T6:(f49.name== "runtime.NumGoroutine")=false:=by kernel_rfl
section
variable{ST:Bool->fb.Lo->aV->Prop}
variable{a4:Frame}{aF:Act}{aC:eY}{aK:Nat}{aM:uaa}{aH:il}{csZ:fV}
def arN{S ak N W:Nat}(y:0<ak)(a7:N=(S+ak-1) / ak)(hS:S<=1000000)(A:ak<=1000000){jt:g4}{c iw:Value}{F:uaj}{M:dh}{w0:aS}(hinv:∀w,(callMethod (.iface jt c) "Size" #[]).run prog w=.ok (.enter F (#[iw]++#[])) w/\(callMethod (.iface jt c) "Size" #[]).events prog w #[]=#[])(w5:∀bs,jJ prog ST true F (#[iw]++#[]) (jL fb () M w0 bs) (λu bW=>u=.I (S:Int)/\bW=jL fb () M w0 bs))(D:∀st cP k f g wg bs w'(I dC e9 K J fK fL fM fN fO fP f2 Y X V L U T R Q:Value),af fb M w0 bs w'->(∀x∈[(wg,Obj.cells #[.int .u64 0,.int .u32 0] 135),(k,Obj.cells #[.P st 0] 123),(st,Obj.cells #[.int .i32 0,.int .u32 0,.I (S:Int),.I (ak:Int),.I 0,.I 0,.S cP 0 N N,.N] 171),(cP,Obj.cells (madeCells #[.N] N) 66),(g,Obj.cells #[.iface jt c] 122),(f,Obj.cells #[.I (W:Int),.I (ak:Int)] 62)],x∈bs)->(∀x∈bs,x∈[(wg,Obj.cells #[.int .u64 0,.int .u32 0] 135),(k,Obj.cells #[.P st 0] 123),(st,Obj.cells #[.int .i32 0,.int .u32 0,.I (S:Int),.I (ak:Int),.I 0,.I 0,.S cP 0 N N,.N] 171),(cP,Obj.cells (madeCells #[.N] N) 66),(g,Obj.cells #[.iface jt c] 122),(f,Obj.cells #[.I (W:Int),.I (ak:Int)] 62)])->bg fb prog ST true () () ⟨Conc.G ((base 37).at ⟨#[I,dC,e9,.P g 0,K,J,.P k 0,.P wg 0,fK,fL,fM,fN,fO,fP,.I (W:Int),.I (0:Int),f2,Y,X,V,L,U,T,R,Q],[]⟩ [.code ((bM.dA (f37.body.getD .skip)).getD .skip),.inLoop ((bM.dA (f37.body.getD .skip)).getD .skip),.inBlock 0,.code ((bM.dW 8 (f37.body.getD .skip)).getD .skip)]) (a4.at aF (.inRegion aC (aK::aM)::aH)::csZ),w',cd M bs⟩)(w:aS)(hk:af fb M w0 [] w):
 bg fb prog ST true () () ⟨Conc.G (Frame.enter prog 37 #[.agg #[.I (W:Int),.I (ak:Int)],.iface jt c] .normal) (a4.at aF (.inRegion aC (aK::aM)::aH)::csZ),w,cd M []⟩:=by
 have hF:=hk;have r:=tZ.np;have H:prog.follows .mixedOrders=true:=Ah;rw[vds _ func37 rfl];refine uD (γ:=()) tZ AA 200 _ _ _ trivial ?_;walk_nrmf f37
 repeat w_go af.on
 refine hX rfl hF λd b s m a B q o hF=>?_;refine tB AA r rfl hF (vbc (v:=.P a.heap.size 0) (w':=a.alloc (Obj.cells #[.I (W:Int),.I (ak:Int)] 62)) rfl rfl Am Ap) rfl BH (λl=>?_);clear hF;have hF:=l;clear l o q m b;generalize a.heap.size=f at hF⊢;generalize a.alloc (Obj.cells #[.I (W:Int),.I (ak:Int)] 62)=w3 at hF⊢;refine uD (γ:=()) tZ AA 200 _ _ _ trivial ?_;walk_nrm
 repeat w_go af.on
 refine hX rfl hF λd b s m a B q o hF=>?_;refine tB AA r rfl hF (vbc (v:=.P a.heap.size 0) (w':=a.alloc (Obj.cells #[.iface jt c] 122)) rfl rfl Am Ap) rfl BH (λl=>?_);clear hF;have hF:=l;clear l o q m b;generalize a.heap.size=g at hF⊢;generalize a.alloc (Obj.cells #[.iface jt c] 122)=w3 at hF⊢;refine uD (γ:=()) tZ AA 200 _ _ _ trivial ?_;walk_nrm
 repeat w_go af.on
 refine vai (λd b=>⟨rfl,λs m=>?_⟩);replace hF:=hF.on b;clear b m;have mr:∀bs:List (Nat×Obj),(g,Obj.cells #[.iface jt c] 122)∈bs->(f,Obj.cells #[.I (W:Int),.I (ak:Int)] 62)∈bs->∀x∈[(f,Obj.cells #[.I (W:Int),.I (ak:Int)] 62),(g,Obj.cells #[.iface jt c] 122)],CD x M w0 bs:=by
  intro bs P O x E;simp at E;rcases E with rfl|rfl
  .exact .inl O
  .exact .inl P
 refine BU (Z:=fb) (C:=NI fb () [(f,Obj.cells #[.I (W:Int),.I (ak:Int)] 62),(g,Obj.cells #[.iface jt c] 122)]) AA Am H NJ apX (σ:=jL fb () M w0 [(g,Obj.cells #[.iface jt c] 122),(f,Obj.cells #[.I (W:Int),.I (ak:Int)] 62)]) (ia:=sn prog ST true _ _ _ _ []) KQ ⟨_,_,_,AA,rfl⟩ ?_ _ s hF;walk_nrm
 refine js (i:=0) (v:=.iface jt c) NJ rfl AJ AJ AJ (PV rfl (z:=(g,Obj.cells #[.iface jt c] 122)) Ad rfl (λw j=>?_)) ⟨_,_,_,AA,rfl⟩ ?_
 .have hc:w.cell? (.a g 0)=some (.iface jt c):=by simp[World.cell?,j]
  refine⟨Ap,λe p=>⟨0,?_⟩⟩;have n:=vbs p;simp[go_sem,hc]at n;grind
 walk_nrm
 refine dU 2 (.P f 1) ?_ NJ ⟨_,_,_,AA,rfl⟩;walk_nrm
 refine js (i:=3) (v:=.I (ak:Int)) NJ rfl AJ AJ AJ (PV rfl (z:=(f,Obj.cells #[.I (W:Int),.I (ak:Int)] 62)) Ad rfl (λw j=>?_)) ⟨_,_,_,AA,rfl⟩ ?_
 .have hc:w.cell? (.a f 1)=some (.I (ak:Int)):=by simp[World.cell?,j]
  refine⟨Ap,λe p=>⟨1,?_⟩⟩;have n:=vbs p;simp[go_sem,hc]at n;grind
 walk_nrm
 refine RP (rs:=[1,5]) AJ Ad (λi hi=>?_);simp at hi;rcases hi with rfl|rfl;focus
  refine(z4 rfl rfl (z6 (λw=>R4 (rv:=.iface jt c) (vs:=#[]) rfl rfl Cs (hinv w)) (w5 _) ?_));rintro u _ ⟨rfl,rfl⟩;refine⟨⟨_,_,_,AA,rfl⟩,?_⟩;walk_nrm
  refine RP (rs:=[4,5]) AJ Ad (λi hi=>?_);simp at hi;rcases hi with rfl|rfl;focus
   refine(z4 rfl rfl (z6 (λw=>rl (vs:=#[.I (S:Int),.I (ak:Int)]) rfl func49 T6 rfl Cs w) (T4 y a7 hS A) ?_));rintro u _ ⟨st,cP,rfl,rfl⟩;refine⟨⟨_,_,_,AA,rfl⟩,?_⟩;walk_nrm
   refine sz (i:=5) AJ (xW rfl rfl (Tr r (ob:=Obj.cells #[.pointer none] 123) (λw=>⟨Ap,BH⟩) (λk=>⟨⟨_,_,_,AA,rfl⟩,?_⟩)));walk_nrm
   refine sz (i:=6) AJ (xW rfl rfl (Ts rfl (pre:=[]) (post:=[(st,Obj.cells #[.int .i32 0,.int .u32 0,.I (S:Int),.I (ak:Int),.I 0,.I 0,.S cP 0 N N,.N] 171),(cP,Obj.cells (madeCells #[.N] N) 66),(g,Obj.cells #[.iface jt c] 122),(f,Obj.cells #[.I (W:Int),.I (ak:Int)] 62)]) (new:=#[.P st 0]) (λw j=>?_) ⟨⟨_,_,_,AA,rfl⟩,?_⟩))
  rotate_left 2
  focus
   refine(xW rfl rfl (Tr r (ob:=Obj.cells #[.pointer none] 123) (λw=>⟨Ap,BH⟩) (λk=>⟨⟨_,_,_,AA,rfl⟩,?_⟩)));walk_nrm
   refine sz (i:=4) AJ (z4 rfl rfl (z6 (λw=>rl (vs:=#[.I (S:Int),.I (ak:Int)]) rfl func49 T6 rfl Cs w) (T4 y a7 hS A) ?_));rintro u _ ⟨st,cP,rfl,rfl⟩;refine⟨⟨_,_,_,AA,rfl⟩,?_⟩;walk_nrm
   refine sz (i:=6) AJ (xW rfl rfl (Ts rfl (pre:=[(st,Obj.cells #[.int .i32 0,.int .u32 0,.I (S:Int),.I (ak:Int),.I 0,.I 0,.S cP 0 N N,.N] 171),(cP,Obj.cells (madeCells #[.N] N) 66)]) (post:=[(g,Obj.cells #[.iface jt c] 122),(f,Obj.cells #[.I (W:Int),.I (ak:Int)] 62)]) (new:=#[.P st 0]) (λw j=>?_) ⟨⟨_,_,_,AA,rfl⟩,?_⟩))
 rotate_left 4
 focus
  refine(xW rfl rfl (Tr r (ob:=Obj.cells #[.pointer none] 123) (λw=>⟨Ap,BH⟩) (λk=>⟨⟨_,_,_,AA,rfl⟩,?_⟩)));walk_nrm
  refine sz (i:=1) AJ (z4 rfl rfl (z6 (λw=>R4 (rv:=.iface jt c) (vs:=#[]) rfl rfl Cs (hinv w)) (w5 _) ?_));rintro u _ ⟨rfl,rfl⟩;refine⟨⟨_,_,_,AA,rfl⟩,?_⟩;walk_nrm
  refine sz (i:=4) AJ (z4 rfl rfl (z6 (λw=>rl (vs:=#[.I (S:Int),.I (ak:Int)]) rfl func49 T6 rfl Cs w) (T4 y a7 hS A) ?_));rintro u _ ⟨st,cP,rfl,rfl⟩;refine⟨⟨_,_,_,AA,rfl⟩,?_⟩;walk_nrm
  refine sz (i:=6) AJ (xW rfl rfl (Ts rfl (pre:=[(st,Obj.cells #[.int .i32 0,.int .u32 0,.I (S:Int),.I (ak:Int),.I 0,.I 0,.S cP 0 N N,.N] 171),(cP,Obj.cells (madeCells #[.N] N) 66)]) (post:=[(g,Obj.cells #[.iface jt c] 122),(f,Obj.cells #[.I (W:Int),.I (ak:Int)] 62)]) (new:=#[.P st 0]) (λw j=>?_) ⟨⟨_,_,_,AA,rfl⟩,?_⟩))
 all_goals
  first
  |have hc:w.cell? (.a k 0)=some (.pointer none):=by simp[World.cell?,j]
   have rJ:w.frozen? ⟨k,0,none⟩=false:=by simp[World.frozen?,j]
   have b9:w.setCell ⟨k,0,none⟩ (.P st 0)=w.setRow k #[.P st 0]:=setCell_eq_setRow w k 0 #[.pointer none] 123 (0,0) (.P st 0) j;refine⟨by rw[<-b9];go_simp,λe p=>⟨0,?_⟩⟩;have n:=vbs p;simp[go_sem]at n;rw[Go.events_store _ _ _ _ _ _ rfl,hc]at n;grind
  |walk_nrm
   refine zY AJ ?_ _;intro t eJ l;replace hF:af fb M w0 _ t:=l;clear l;unfold jL;refine uD (γ:=()) tZ AA 200 _ _ _ trivial ?_;walk_nrm
   repeat w_go af.on
   refine hX rfl hF λd b s m a B q o hF=>?_;refine tB AA r rfl hF (vbc (v:=.P a.heap.size 0) (w':=a.alloc (Obj.cells #[.int .u64 0,.int .u32 0] 135)) rfl rfl Am Ap) rfl BH (λl=>?_);clear hF;have hF:=l;clear l o q m b;generalize a.heap.size=wg at hF⊢;generalize a.alloc (Obj.cells #[.int .u64 0,.int .u32 0] 135)=w3 at hF⊢;refine uD (γ:=()) tZ AA 200 _ _ _ trivial ?_;walk_nrm
   repeat w_go af.on
   refine hX rfl hF λd b s m a B q o hF=>?_;have j:=hF.c8 (f,Obj.cells #[.I (W:Int),.I (ak:Int)] 62) Ad;have hc:a.cell? (.a f 0)=some (.I (W:Int)):=by simp[World.cell?,j]
   refine ss AA rfl AA (vbc (v:=.I (W:Int)) rfl rfl Am Ap) rfl (λe p=>?_) ?_
   .have n:=vbs p;simp[go_sem,hc]at n;subst n;exact⟨rfl,.inr (.inr Ad)⟩
   clear j hc o q m b;refine uD (γ:=()) tZ AA 200 _ _ _ trivial ?_;walk_nrm
   iterate 4 w_go af.on
   refine vai (λd b=>⟨rfl,λs m=>?_⟩);replace hF:=hF.on b;simp only[f37,vae,bM.dA,bM.dW,Nat.reduceBEq,vah,↓reduceIte]at D;exact D st cP k f g wg _ d (.agg #[.I (W:Int),.I (ak:Int)]) (.iface jt c) (.P f 0) _ _ (.iface jt c) (.I (S:Int)) (.P f 1) (.I (ak:Int)) (.P st 0) (.P f 0) undef undef undef undef undef undef undef undef undef hF Ad Ad
end
end pT
namespace jd
open Conc RowKit Conc.Lib ConcR.Gen ConcM ax bp ag fq iu gg
theorem asg:(f112.name== "runtime.NumGoroutine")=false:=by kernel_rfl
theorem ash:(f111.name== "runtime.NumGoroutine")=false:=by kernel_rfl
theorem asi:(f109.name== "runtime.NumGoroutine")=false:=by kernel_rfl
section
variable{c:dD}{Stop:Bool->ag.Lo At->aV->Prop}{fr aU:uas}{gH iw:Value}{kT:uaj}{mQ cW:uaf}
def asj{cb:aS}(J:uM c cb prog Stop 112 gH kT iw fr aU mQ cW){f T:Nat}{q:uae}{M:dh}{w0:aS}(O:T<c.N)(P:pJ c cb w0)(L:∀s bq M' w1,af (am (az c)) M' w1 [] w1->jJ prog Stop false 111 #[.P c.st 0,.agg #[.I (T:Int),.I (fr T:Int),.I (aU T:Int)],.slice s (c.rows T) bq] (fE c ⟨.idle,false,0,f+16,.work (.has T) q⟩ M' w1) (λu K=>u=.tuple #[]/\K=fE c ⟨.idle,false,0,f,.work .free ((T,.slice s (c.rows T) bq)::q)⟩ M' w1)):
 jJ prog Stop false 84 #[.P c.st 0,gH,.agg #[.I (T:Int),.I (fr T:Int),.I (aU T:Int)]] (fE c ⟨.idle,false,0,f+16,.work (.has T) q⟩ M w0) (λu K=>u=.tuple #[]/\∃v M' w1,iv (am (az c)) M w0 M' w1/\(c.cj T=false->cW T v M' w1)/\K=fE c ⟨.idle,false,0,f,.work .free ((T,v)::q)⟩ M' w1):=by
 intro a4 aF aC aK aM aH csZ hK w γ hS;have hF:af (am (az c)) M w0 [] w:=hS;clear hS;have N:=(da (bR c)).np;have S:prog.follows .mixedOrders=true:=Ah;rw[vds _ func84 Y];unfold fE;rw[<-je (M:=M)];refine bl (bR c) ?_;walk_nrmf f84
 repeat w_go af.on
 refine hX Y hF λd b y p a Q E A hF=>?_;refine tB AA N Y hF (vbc (v:=.P a.heap.size 0) (w':=a.alloc (Obj.cells #[.P c.st 0] 123)) Y Y Am Ap) Y BH (λB=>?_);clear hF;have hF:=B;clear B A E p b;generalize a.heap.size=t at hF⊢;generalize a.alloc (Obj.cells #[.P c.st 0] 123)=w3 at hF⊢;refine bl (bR c) ?_;walk_nrm
 repeat w_go af.on
 refine hX Y hF λd b y p a Q E A hF=>?_;refine tB AA N Y hF (vbc (v:=.P a.heap.size 0) (w':=a.alloc (Obj.cells #[.I (T:Int),.I (fr T:Int),.I (aU T:Int)] 186)) Y Y Am Ap) Y BH (λB=>?_);clear hF;have hF:=B;clear B A E p b;generalize a.heap.size=bt at hF⊢;generalize a.alloc (Obj.cells #[.I (T:Int),.I (fr T:Int),.I (aU T:Int)] 186)=w3 at hF⊢;refine bl (bR c) ?_;walk_nrm
 repeat w_go af.on
 u_in af.on hF
 rw[alV Y Y Am Y Y];simp only[goes_go];refine⟨ED,?_⟩;walk_nrm
 repeat w_go af.on
 refine vai (λd b=>⟨Y,λy p=>?_⟩);replace hF:=hF.on b;clear b p;have m:=hF.c8 (t,Obj.cells #[.P c.st 0] 123) Ad;have l:=hF.c8 (bt,Obj.cells #[.I (T:Int),.I (fr T:Int),.I (aU T:Int)] 186) Ad;have k:cd M [(bt,Obj.cells #[.I (T:Int),.I (fr T:Int),.I (aU T:Int)] 186),(t,Obj.cells #[.P c.st 0] 123)] t:=.inr Ad;have j:cd M [(bt,Obj.cells #[.I (T:Int),.I (fr T:Int),.I (aU T:Int)] 186),(t,Obj.cells #[.P c.st 0] 123)] bt:=.inr Ad;have I:=af.rk hF;refine BU (Z:=am (az c)) (C:=Mx c (t,Obj.cells #[.P c.st 0] 123) (bt,Obj.cells #[.I (T:Int),.I (fr T:Int),.I (aU T:Int)] 186)) AA Am S z5 alZ (σ:=fE c ⟨.idle,false,0,f+16,.work (.has T) q⟩ (cd M [(bt,Obj.cells #[.I (T:Int),.I (fr T:Int),.I (aU T:Int)] 186),(t,Obj.cells #[.P c.st 0] 123)]) d) (ia:=sn prog Stop false _ _ _ _ []) KQ ⟨_,_,_,Y,⟨k,m⟩,⟨j,l⟩,Y⟩ ?_ _ y I;walk_nrm
 refine js (i:=0) (v:=.P c.st 0) z5 Y AJ AJ AJ (My J1 Y (λw o=>?_)) ⟨_,_,_,Y,⟨k,m⟩,⟨j,l⟩,Y⟩ ?_
 .have hc:w.cell? (.a t 0)=some (.P c.st 0):=by simp[World.cell?,o]
  refine⟨Ap,λe r=>⟨0,?_⟩⟩;have x:=vbs r;simp[go_sem,hc]at x;grind
 walk_nrm
 refine js (i:=1) (v:=.agg #[.I (T:Int),.I (fr T:Int),.I (aU T:Int)]) z5 Y AJ AJ AJ (My KK Y (λw o=>⟨(Ax o Y Y).1,λe r=>?_⟩)) ⟨_,_,_,Y,⟨k,m⟩,⟨j,l⟩,Y⟩ ?_
 .have x:=vbs r;rw[(Ax o Y Y).2]at x;grind
 walk_nrm
 refine js (i:=2) (v:=gH) z5 Y AJ AJ AJ (Ft Y (λ_=>Ap) (λ_=>BH)) ⟨_,_,_,Y,⟨k,m⟩,⟨j,l⟩,Y⟩ ?_;walk_nrm
 refine js (i:=3) (v:=.P bt 1) z5 Y AJ AJ AJ (Ft Y (λ_=>Ap) (λ_=>BH)) ⟨_,_,_,Y,⟨k,m⟩,⟨j,l⟩,Y⟩ ?_;walk_nrm
 refine js (i:=4) (v:=.I (fr T:Int)) z5 Y AJ AJ AJ (My KK Y (λw o=>?_)) ⟨_,_,_,Y,⟨k,m⟩,⟨j,l⟩,Y⟩ ?_
 .have hc:w.cell? (.a bt 1)=some (.I (fr T:Int)):=by simp[World.cell?,o]
  refine⟨Ap,λe r=>⟨1,?_⟩⟩;have x:=vbs r;simp[go_sem,hc]at x;grind
 walk_nrm
 refine js (i:=5) (v:=.P bt 2) z5 Y AJ AJ AJ (Ft Y (λ_=>Ap) (λ_=>BH)) ⟨_,_,_,Y,⟨k,m⟩,⟨j,l⟩,Y⟩ ?_;walk_nrm
 refine js (i:=6) (v:=.I (aU T:Int)) z5 Y AJ AJ AJ (My KK Y (λw o=>?_)) ⟨_,_,_,Y,⟨k,m⟩,⟨j,l⟩,Y⟩ ?_
 .have hc:w.cell? (.a bt 2)=some (.I (aU T:Int)):=by simp[World.cell?,o]
  refine⟨Ap,λe r=>⟨2,?_⟩⟩;have x:=vbs r;simp[go_sem,hc]at x;grind
 walk_nrm
 refine sz (i:=7) AJ (z4 Y Y (z6 (λw=>R4 (rv:=gH) (vs:=#[.I (fr T:Int),.I (aU T:Int)]) Y Y Cs (J.inv #[.I (fr T:Int),.I (aU T:Int)] w)) (J.al0 T ⟨.idle,false,0,f+16,.work (.has T) q⟩ _ _ O Y I (P.aD hF)) ?_));rintro u _ ⟨W,w1,g,D,rfl⟩;refine⟨⟨_,_,_,Y,⟨g.sub _ k,g.heap k m⟩,⟨g.sub _ j,g.heap j l⟩,Y⟩,?_⟩;walk_nrm
 refine sz (i:=8) AJ (z4 Y Y (z6 (λw=>rl (vs:=#[u]) Y func112 asg Y Cs w) (J.al1 T ⟨.idle,false,0,f+16,.work (.has T) q⟩ _ _ u O Y g.aD ((P.aD hF).more g) D) ?_));rintro v _ ⟨F,H,n,R,rfl⟩;refine⟨⟨_,_,_,Y,⟨n.sub _ (g.sub _ k),n.heap (g.sub _ k) (g.heap k m)⟩,⟨n.sub _ (g.sub _ j),n.heap (g.sub _ j) (g.heap j l)⟩,Y⟩,?_⟩;obtain⟨s,bq,rfl⟩:=J.slice _ _ _ _ R;walk_nrm
 refine sz (i:=9) AJ (z4 Y Y (z6 (λw=>rl (vs:=#[.P c.st 0,.agg #[.I (T:Int),.I (fr T:Int),.I (aU T:Int)],.slice s (c.rows T) bq]) Y func111 ash Y Cs w) (L s bq F H n.aD) ?_));rintro u2 _ ⟨rfl,rfl⟩;refine⟨⟨_,_,_,Y,⟨n.sub _ (g.sub _ k),n.heap (g.sub _ k) (g.heap k m)⟩,⟨n.sub _ (g.sub _ j),n.heap (g.sub _ j) (g.heap j l)⟩,Y⟩,?_⟩;walk_nrm
 refine zY AJ ?_ _;have U:=(iv.start hF g).trans n;clear g n D I k j m l hF L;intro z V hF;replace hF:af (am (az c)) F H [] z:=hF;unfold fE;rw[<-je (M:=F)];refine bl (bR c) ?_;walk_nrm
 repeat w_go af.on
 u_in af.on hF
 rw[alW Y func109 asi Y];simp only[goes_go];refine⟨ED,?_⟩;walk_nrmf f109
 repeat w_go af.on
 u_in af.on hF
 rw[alX Y Y Y Y Ap BH];simp only[goes_go];refine⟨ED,?_⟩;walk_nrm
 repeat w_go af.on
 refine hX Y hF λd b y p a Q E A hF=>?_;refine R2 AA (vbc (v:=.F) Y Y Am (by simp[go_sem])) Y Ec ?_;clear A E p b;refine bl (bR c) ?_;walk_nrm
 repeat w_go af.on
 u_in af.on hF
 refine bM.JW Y Y func109 Y Y ⟨ED,?_⟩;u_in af.on hF
 refine goes_leave0 Y Y func84 Y ⟨ED,?_⟩;refine vai (λd b=>⟨Y,λy p=>?_⟩);replace hF:=hF.on b;rw[je];exact hK (.tuple #[]) (fE c ⟨.idle,false,0,f,.work .free ((T,.slice s (c.rows T) bq)::q)⟩ F H) AA d y hF
end
end jd
namespace cq
open RowKit Shelf ax bS
variable{L:List e5}
section
@[simp] theorem au1:cQ true 23:=c0 (bw (upd:=true) func23 AJ) AJ
theorem au2{b:Nat}(h:¬h5 L b):∃i,∃(hi:i<L.length),L[i].v.ownBlock=some b:=vaw λhn=>h λi hi hg=>AA
def xh{B:Nat}{W W':aS}{Y:ubm}(h:eU B W L)(hk:hM Y W W')(b:∀i(h:i<L.length),Y L[i].e):eU B W' L:=h.kept λg hg=>by
 obtain⟨i,hi,a⟩:=au2 hg;rcases(h.own i hi).2 with⟨hn,-⟩|⟨g',cap,bd,hv,-,hc,-⟩
 .rw[hn]at a;cases a
 .rw[hv]at a;cases a;exact(hk.cells _ _ _ _ hc (b i hi)).trans hc.symm
def rj{e:g4}(h:e=2\/e=9\/e=4):¬ru e:=by unfold ru;grind
structure G2(B bE t4 t5:Nat)(l:uac)(D:Nat->Nat->cR)(m:uas)(V:aS)(L:List e5)(cs:dp):Prop where
 gu:eU B V L
 at_:uY l D m L cs
 box:ai V bE cs 53
 bt:ai V t5 #[.S bE 0 l.length l.length] 25
 a8:ai V t4 #[.N] 27
def G2.OG{B d c b:Nat}{l:uac}{D:Nat->Nat->cR}{m:uas}{V a:aS}{cs:dp}(h:G2 B d c b l D m V L cs)(hk:hM (λe=>¬ru e) V a):G2 B d c b l D m a L cs:=
 ⟨xh h.gu hk λi hi=>rj (h.at_.Cl i hi),h.at_,hk.cells _ _ _ _ h.box (by grind[ru]),hk.cells _ _ _ _ h.bt (by grind[ru]),hk.cells _ _ _ _ h.a8 (by grind[ru])⟩
def jz(rs:List aZ)(t i:Nat):cR:=((rs[t]?.map (·.2)).getD [])[i]?.getD sg
def au3{l:uac}(D:Nat->Nat->cR){cs:dp}(hs:cs.size=l.length*5)(hc:Ce cs l l.length):uY l D (λ_=>0) ((List.range (3*l.length)).map λi=>⟨if i % 3=0 then 2 else if i % 3=1 then 9 else 4,.N,[]⟩) cs:=by
 refine⟨hs,λi hi=>?_,λi hi=>?_⟩
 .obtain⟨a,a1,c,b,d⟩:=hc i hi hi;refine⟨_,_,_,a,a1,c,b,d,?_,?_,?_⟩
  .grind[oS]
  .grind[oT]
  grind[sF]
 grind
def au4(B:Nat)(w:aS)(n:Nat)(e:Nat->TypeId):eU B w ((List.range n).map λi=>⟨e i,.N,[]⟩):=by
 refine⟨λi hi=>?_,λi j hi b g a hg=>?_⟩
 .grind[World.ownsRow_nil]
 grind[Value.ownBlock]
attribute [local go_sem] Oper.semAt_some
def au5(l:uac)(v:Value)(rs:List aZ){gf:Nat}{lb:dp}(w:aS)(hv:gl w v l)(hl:l.length<=1000)(wV:rs.length<=1000)(hlen:∀r∈rs,r.2.length=l.length)(AO:∀r∈rs,∀d∈r.2,d.text.size<=1000000)(tb:∀args w,(callFunc gf args).run (ae prog true) w=.ok (.enter gf args) w)(ti:∀n,Ac ru n (ae prog true) gf lb (Cf w rs) rs.length w.heap.size w):
 Calls (ae prog true) 23 #[v,.func (.func gf) #[] lb] w λe w'=>∃v',e=.returned (.agg #[v'])/\ke w' v' (kz l (jz rs) rs.length)/\cJ w w':=by
 obtain⟨bG,ov,rfl,-,-⟩:=id hv;have Iw:Hid (gl w _ l):=hv;have re:Hid _:=hlen;have rb:Hid _:=AO;clear hv hlen AO;refine(callsIn_wide (n:=3)).1 ?_;refine callsIn_of_wp_marks (bw (upd:=true) func23 AJ) rfl trivial ?_;simp[vce];gi_wp2_with (refine⟨PJ,(callsIn_wide.2 (ani l _ _ (Iw.out.mono px (bo.bX ((vaa _ w).alloc AA _))) AP)).mono ?_⟩;rintro e w1 ⟨a,cs0,rfl,cB,hsz,LN,n5,bY⟩)
 have Vg:ai w1 w.heap.size #[.N] 27:=(ai.new w _ _).call bY;have lZ:cJ w w1:=Below.step bY ((vaa _ w).alloc AA _) Ad;have aFz:w.heap.size<w1.heap.size:=Vg.lt;have cw:cJ w1 (w1.alloc (.cells #[.S a 0 l.length l.length] 25)):=(vaa _ w1).alloc AA _;have hst:G2 (w1.heap.size+1) a w.heap.size w1.heap.size l (jz rs) (λ_=>0) (w1.alloc (.cells #[.S a 0 l.length l.length] 25)) _ cs0:=⟨au4 _ _ _ _,au3 _ hsz LN,cB.alloc _,ai.new _ _ _,Vg.alloc _⟩;refine anm (n:=3) (gf:=gf) (lb:=lb) (w0:=w) (nZ:=w.heap.size) (N:=rs.length) (Row:=Cf w rs) rfl tb (ti _) (lZ.trans (cw.mono AP)) Aq
  (λt V=>∃L cs,G2 (w1.heap.size+1) a w.heap.size w1.heap.size l (jz rs) (λ_=>t) V L cs)
  (λt V tK h hk=>by
   obtain⟨L,cs,h⟩:=h;exact⟨L,cs,h.OG hk⟩)
  AA
  (λt x a' V=>∃M y qg pc A I D,ai V M #[.slice y qg pc,.slice A I D] 76/\x=.agg #[.slice y qg pc,.slice A I D]/\Cf w rs t V x/\∃z,a'={tmps:=#[.slice bG l.length ov,.func (.func gf) #[] lb,.U,.U,.P w.heap.size 0,.P w1.heap.size 0,.P M 0,.U,.U,.slice bG l.length ov,.S a 0 l.length l.length,.func (.func gf) #[] lb,z,.U,.U,.U,.U,.U,.U,.U,.U,.U,.U,.U,.U,.U,.U,.U,.U,.U,.U,.U,.U],defers:=[]})
  (λt x a' V tK h hk=>by
   obtain⟨M,y,qg,pc,A,I,D,h1,h2,⟨h3,p1,p2,p3,p4,kC,au6,au7⟩,h4⟩:=h;exact⟨M,y,qg,pc,A,I,D,hk.cells _ _ _ _ h1,h2,⟨h3,p1,p2,p3,p4,kC,au6,λ_ _ _ hc=>Ch hk (au7 _ _ _ hc)⟩,h4⟩)
  ?assign ?body ?done
 case assign=>
  rintro l' t x V K- -⟨F,y,pc,A,D,rfl,nl,jr⟩ hK;gi_wp2
  have fo:cJ V (V.alloc (.cells #[.slice y rs[t].1.length pc,.slice A rs[t].2.length D] 76)):=(vaa _ V).alloc AA _;exact hK _ _ fo ⟨V.heap.size,_,_,_,_,_,_,ai.new V _ _,rfl,⟨F,y,pc,A,D,rfl,nl,λ_ _ _ hc=>bo.bX fo _ _ _ (jr _ _ _ hc)⟩,_,rfl⟩
 case body=>
  rintro l' t x a' V ⟨Zl,cs1,q9⟩ hlt ⟨M,y,qg,pc,A,I,D,OH,rfl,⟨F,ND,NE,NF,NG,au8,nl,jr⟩,z,rfl⟩ nj;cases au8;have qP:rs[t].2.length=l.length:=re.out _ AA;have Jf:Hid _:=nl;have Vh:Hid _:=qP;have Rg:Hid _:=q9;have u:Hid (a<w1.heap.size):=cB.lt;have Vi:Hid (w.heap.size<a):=by unfold Hid;simp at n5;omega
  have au9:Hid _:=jr;obtain⟨c9,ed,ge⟩:=OH.all;clear nl qP q9 jr ti hst cB cw lZ bY LN hsz Vg n5;gi_wp2
  gi_loopw [16] (λp wr=>∃(k:Nat)(L:List e5)(cs:dp),k<=l.length/\p=.I k/\G2 (w1.heap.size+1) a w.heap.size w1.heap.size l (jz rs) (λi=>if i<k then t+1 else t) wr L cs/\KeepsOthers V wr/\Below w.heap.size V wr/\hM ru V wr/\bo w wr)
   (λi _=>l.length-(intOf i).toNat)
  case atStart=>exact⟨0,_,_,vav _,rfl,by simpa using Rg.out,KeepsOthers.refl _,vaa _ _,.oR ⟨vac _,AA⟩,au9.out⟩
  case round=>
   obtain⟨k,L,cs,hk,rfl,H,sc,tX,MY,Rf⟩:=hrel;have q:Hid _:=H;have aFA:w1.heap.size<wr.heap.size:=q.out.bt.lt;have qu:Hid (KeepsOthers V wr):=sc;have qq:Hid (Below w.heap.size V wr):=tX;have wW:Hid (hM ru V wr):=MY;have Ks:Hid (bo w wr):=Rf;clear H sc tX MY Rf;by_cases rg:k<l.length
   .obtain⟨nE,aFB,Ii,-,bT⟩:=id Jf.out;cases Ii;have Nx:k<rs[t].2.length:=by have:=Vh.out;omega
    obtain⟨b,off,rfl,d0,d1,d2,d3,-⟩:=bT k Nx;simp at d0;have e0:=Ks.out _ _ _ d0;have e1:=Ks.out _ _ _ d1;have e2:=Ks.out _ _ _ d2;have e3:=Ks.out _ _ _ d3;have XN:=ff e0;have l3:(0:Int)<=(k:Int):=AP;have j7:(k:Int)<(l.length:Int):=AP;have hD:jz rs t k=rs[t].2[k]:=by grind[jz]
    have SG:Hid _:=hD;have gR:cJ wr (wr.alloc (.cells #[.bool rs[t].2[k].dH,.I rs[t].2[k].num,.I rs[t].2[k].bV,.string rs[t].2[k].text] 93)):=(vaa _ wr).alloc AA _;have pL:Hid _:=gR;have f:Hid _:=q.out.OG (.oR (.below gR));have OI:Hid _:=ai.new wr #[.bool rs[t].2[k].dH,.I rs[t].2[k].num,.I rs[t].2[k].bV,.string rs[t].2[k].text] 93;have zz:(rs[t].2.length:Int)=(l.length:Int):=by have:=Vh.out;omega
    clear d0 d1 d2 d3 bT hD gR;gi_wp2
    have au_:Hid ((wr.alloc (.cells #[.bool rs[t].2[k].dH,.I rs[t].2[k].num,.I rs[t].2[k].bV,.string rs[t].2[k].text] 93)).heap.size=wr.heap.size+1):=by unfold Hid;simp
    clear e0 e1 e2 e3;generalize wr.alloc (.cells #[.bool rs[t].2[k].dH,.I rs[t].2[k].num,.I rs[t].2[k].bV,.string rs[t].2[k].text] 93)=m at *;obtain⟨bj,vs,I,cC,a1,bc,bz,bO,dz,jw,nC⟩:=f.out.at_.tP k rg;obtain⟨p0,q0,rfl⟩:=h9 (show m.ownsRow _ 2 1 bj (oS l[k].1 (jz rs · k) _).length _ from f.out.gu.at dz);obtain⟨p1,br,rfl⟩:=h9 (show m.ownsRow _ 9 1 vs (oT l[k].1 (jz rs · k) _).length _ from f.out.gu.at jw);obtain⟨p2,bn,rfl⟩:=h9 (show m.ownsRow _ 4 1 I (sF (jz rs · k) _).length _ from f.out.gu.at nC);have lf:=anE f.out.at_ (w:=m.drew) (B:=w1.heap.size+1) ⟨f.out.gu.own,f.out.gu.apart⟩ (by have:=f.out.bt.lt;simp;omega) rg AA (by simp;rw[SG.out];exact rb.out _ (vax F) _ AA) bc bz bO;simp only[Nat.lt_irrefl,vee]at lf;rw[SG.out]at lf;have HC:Hid _:=lf;obtain⟨f1,ir,f3⟩:=f.out.box.all;have g0:m.cell? (.a a (k*5))=_:=(f1 _).trans cC;have g1:m.cell? (.a a (k*5+1))=_:=(f1 _).trans a1;have g2:m.cell? (.a a (k*5+2))=_:=(f1 _).trans bc;have eP:m.cell? (.a a (k*5+3))=_:=(f1 _).trans bz;have gW:m.cell? (.a a (k*5+4))=_:=(f1 _).trans bO;obtain⟨ava,avb,avc⟩:=f.out.bt.all;obtain⟨kG,kH,avd⟩:=ai.all (show ai m wr.heap.size _ _ from OI.out);have qn:∀j,qt L m.drew j->ai j a cs 53/\ai j w1.heap.size #[.S a 0 l.length l.length] 25/\ai j w.heap.size #[.N] 27:=λj hF=>
     ⟨(hF.block a f.out.box.lt (f.out.gu.nA (.inr (by have:=u.out;omega)))).trans f.out.box,(hF.block _ f.out.bt.lt (f.out.gu.nA AA)).trans f.out.bt,(hF.block _ f.out.a8.lt (f.out.gu.nA AA)).trans f.out.a8⟩
    have xE:Hid _:=qn;have O:Hid _:=f.out.at_.size;clear lf cC a1 bc bz bO dz jw nC f1 ir qn;refine anL Ah Ah (FP (C:=λW=>ai W w1.heap.size #[.S a 0 l.length l.length] 25/\ai W wr.heap.size #[.bool rs[t].2[k].dH,.I rs[t].2[k].num,.I rs[t].2[k].bV,.string rs[t].2[k].text] 93) _ _ _ _ ?_);have J:Hid (ai m.drew w1.heap.size #[.S a 0 l.length l.length] 25/\ai m.drew wr.heap.size #[.bool rs[t].2[k].dH,.I rs[t].2[k].num,.I rs[t].2[k].bV,.string rs[t].2[k].text] 93):=⟨f.out.bt,OI.out⟩;refine tQ (i:=1) (v:=.I k) rfl Ah Ah Ah KQ J.out ⟨BJ,λW _=>Ap,AA,λ_=>rfl⟩ ?_;refine tQ (i:=3) (v:=.I k) rfl Ah Ah Ah KQ J.out ⟨BJ,λW _=>Ap,AA,λ_=>rfl⟩ ?_;refine tQ (i:=0) (v:=.S a 0 l.length l.length) rfl Ah Ah Ah KQ J.out ⟨BJ,λW P=>by obtain⟨dC,e9,mC⟩:=P.1.all;go_simp,AA,λ_=>rfl⟩ ?_;refine tQ (i:=2) (v:=.S a 0 l.length l.length) rfl Ah Ah Ah KQ J.out ⟨BJ,λW P=>by obtain⟨dC,e9,mC⟩:=P.1.all;go_simp,AA,λ_=>rfl⟩ ?_;refine tQ (i:=6) (v:=oI rs[t].2[k]) rfl Ah Ah Ah KQ J.out ⟨BJ,λW P=>by obtain⟨dC,e9,mC⟩:=P.2.all;go_simp,AA,λ_=>rfl⟩ ?_;refine jY (i:=4) Ah rfl λK hK=>?_;go_simp
    refine hK _ _ J.out ?_;clear hK K;refine jY (i:=5) Ah rfl λK hK=>?_;go_simp
    refine hK _ _ J.out ?_;clear hK K;refine jY (i:=7) Ah rfl λK hK=>?_;go_simp
    refine⟨PJ,(callsIn_wide.2 HC.out).mono ?_⟩;rintro e j ⟨r0,n0,di,r1,n1,c1,r2,ey,bH,L',rfl,Z,X,hF⟩;obtain⟨E,Vj,U⟩:=xE.out j hF;have Vk:ai j wr.heap.size #[.bool rs[t].2[k].dH,.I rs[t].2[k].num,.I rs[t].2[k].bV,.string rs[t].2[k].text] 93:=(hF.block _ BK (M4 f.out.gu λc e z hc i hi he=>by
     have s:ai m wr.heap.size _ _:=OI.out;unfold ai at s;rw[s]at hc;cases hc;rcases f.out.at_.Cl i hi with h|h|h<;>rw[h]at he<;>exact absurd he AX)).trans OI.out
    refine hK _ _ ⟨Vj,Vk⟩ ?_;clear hK K g0 g1 g2 eP gW ava avb avc kG kH avd;have i0:j.cell? (.a a (k*5))=some (cs[k*5]'FA):=FK;have i1:j.cell? (.a a (k*5+1))=some (cs[k*5+1]'FA):=FK;have i2:j.cell? (.a a (k*5+2))=some (cs[k*5+2]'FA):=FK;have i3:j.cell? (.a a (k*5+3))=some (cs[k*5+3]'FA):=FK;have i4:j.cell? (.a a (k*5+4))=some (cs[k*5+4]'FA):=FK;have i5:=E.rules.2;have NA:Hid (ai j a cs 53):=E;have JC:Hid (ai j w1.heap.size #[.S a 0 l.length l.length] 25):=Vj;have Tn:Hid (ai j w.heap.size #[.N] 27):=U;have S:Hid (ai j wr.heap.size #[.bool rs[t].2[k].dH,.I rs[t].2[k].num,.I rs[t].2[k].bV,.string rs[t].2[k].text] 93):=Vk;have Fz:Hid _:=Z;have I0:Hid _:=X;have Vl:Hid _:=hF;clear E Vj U Vk Z X hF;refine jY (i:=8) Ah rfl λK hK=>?_;go_simp
    refine hK _ _ ⟨JC.out,S.out⟩ ?_;clear hK K;refine jY (i:=9) Ah rfl λK hK=>?_;go_simp
    refine hK _ _ ⟨((((JC.out.gx Cc _).gx Cc _).gx Cc _).gx Cc _).gx Cc _,((((S.out.gx Cc _).gx Cc _).gx Cc _).gx Cc _).gx Cc _⟩ ?_;clear hK K;refine FQ Ah ?_ _;clear i0 i1 i2 i3 i4 i5;have hA0:KeepsOthers wr j:=(anl pL.out).trans (by have s:=anF Vl.out ⟨f.out.gu.own,f.out.gu.apart⟩;exact⟨s.size,s.same⟩);have hA1:hM ru wr j:=(hM.oR (.below pL.out)).trans (by have s:=anG (Y:=ru) Vl.out ⟨f.out.gu.own,f.out.gu.apart⟩ λi hi=>rj (f.out.at_.Cl i hi);exact⟨s.size,s.cells⟩);have hA2:Below w.heap.size wr j:=(pL.out.mono AP).trans (by have s:=anH (n:=w.heap.size) Vl.out ⟨f.out.gu.own,f.out.gu.apart⟩ AP (by have:=au_.out;simp;omega);exact⟨s.os,s.tape,s.output,s.size,s.block⟩);have ave:Hid _:=hA0;have avf:Hid _:=hA1;have R:Hid _:=hA2;clear hA0 hA1 hA2;gi_wp2
    go_roundw
    case rel=>
     refine⟨_,_,.I ((k:Int)+1),⟨k+1,AP,Ad,⟨L',rr cs k (.I l[k].1) (.I l[k].2) (.slice r0 n0 di) (.slice r1 n1 c1) (.slice r2 ey bH),⟨?_,?_,?_,?_,?_⟩⟩,?_,?_,?_,?_⟩,rfl,rfl,rfl⟩
     .exact Fz.out.kept λg hg=>M5 _ _ _ _ _ _ _ _ λe=>hg (e▸Fz.out.nA (.inr (by have:=u.out;omega)))
     .refine I0.out.congr λi hi=>?_;grind[wI]
     .exact ZA NA.out _ _ _ _ _ _
     .exact(M5 _ _ _ _ _ _ _ _ (by have:=u.out;omega)).trans JC.out
     .exact(M5 _ _ _ _ _ _ _ _ (by have:=Vi.out;omega)).trans Tn.out
     .exact(qu.out.trans ave.out).trans (anO ..)
     .exact(qq.out.trans R.out).trans (SJ _ (by have:=Vi.out;omega) _ _ _ _ _ _)
     .exact(wW.out.trans avf.out).trans (anP NA.out (by grind[ru]) _ _ _ _ _ _)
     .exact λb o x hc=>((R.out.trans (SJ _ (by have:=Vi.out;omega) _ _ _ _ _ _)).cell (p:=⟨b,o,none⟩) (ff hc)).trans (Ks.out _ _ _ hc)
    case measure=>simp[intOf];omega
   .have iq:k=l.length:=by omega
    have zz:(rs[t].2.length:Int)=(l.length:Int):=by have:=Vh.out;omega
    gi_wp2
    refine⟨qu.out,qq.out,wW.out,L,cs,q.out.gu,q.out.at_.congr λi hi=>?_,q.out.box,q.out.bt,q.out.a8⟩;grind
 case done=>
  rintro V ⟨L,cs,H⟩ hB hK;obtain⟨br,bn,q3⟩:=H.bt.all;obtain⟨jm,ml,n4⟩:=H.a8.all;have q:Hid _:=H;have BA:Hid _:=hK;have cf:Hid _:=hB;clear H hB hK;gi_wp2
  have hne:(w1.alloc (.cells #[.S a 0 l.length l.length] 25)).heap.size≠w.heap.size:=Aq;have Vm:=(vaq V ⟨w.heap.size,0,none⟩ (.S a 0 l.length l.length) _ hne).trans BA.out;refine⟨Ad,.inl ⟨_,_,rfl,run_takeDeferred Vm,?_⟩⟩;have xr:w.heap.size<a:=by simp at n5;omega
  have kk:hM (λe=>e≠27) V ((V.setCell ⟨w.heap.size,0,none⟩ (.S a 0 l.length l.length)).putObj (w1.alloc (.cells #[.S a 0 l.length l.length] 25)).heap.size (.deferred none)):=
   (hM.set q.out.a8 AA _ _).trans (.oR (E6 Vm))
  refine⟨.agg #[.S a 0 l.length l.length],?_,_,rfl,anR (xh q.out.gu kk λi hi=>?_) q.out.at_ (kk.cells _ _ _ _ q.out.box AX) hl ?_,?_⟩
  .have avg:(V.setCell ⟨w.heap.size,0,none⟩ (.S a 0 l.length l.length)).heap[w.heap.size]?=some (.cells #[.S a 0 l.length l.length] 27):=q.out.a8.set _ _;have Q:((V.setCell ⟨w.heap.size,0,none⟩ (.S a 0 l.length l.length)).putObj (w1.alloc (.cells #[.S a 0 l.length l.length] 25)).heap.size (.deferred none)).cell? (.a w.heap.size 0)=some (.S a 0 l.length l.length):=Ch (E6 Vm) (((ai.rules (T:=27) avg).1 0).trans rfl);simp at Q⊢;simp[results,results23,go_sem,Q]
  .rcases q.out.at_.Cl i hi with h|h|h<;>rw[h]<;>decide
  .intro r i F hi;simp[jz,vag F];have oF:=re.out _ (vax F);rw[vag AP];exact rb.out _ (vax F) _ AA
  .exact((lZ.trans (cw.mono AP)).trans cf.out).trans ((Below.setCell (vaa _ V) (p:=⟨w.heap.size,0,none⟩) AA _).trans (uq _ Aq))
