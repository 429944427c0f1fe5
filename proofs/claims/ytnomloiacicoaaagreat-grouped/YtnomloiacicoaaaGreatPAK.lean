import Derived.Test.YtnomloiacicoaaaGreatPAF
import Derived.Test.YtnomloiacicoaaaGreatPAI
set_option linter.all false
set_option maxRecDepth 100000
set_option maxHeartbeats 16000000
namespace Go.Proofs.YtnomloiacicoaaaGreat
open Tryz
namespace bQ
open Conc RowKit Conc.Lib ConcR.Gen ConcM av bj ah
def U6{A:fq}{l:ah.Lo A.aq}{γ:ah.aQ A.aH}(h:ib (ao A) l γ):l.fuel<=γ.a7:=by obtain⟨ls,i,hi,hg⟩:∃(ls:List (ah.Lo A.aq))(i:Nat),ls[i]?=some l/\tt A γ ls:=h;have:=ND (ls.map (·.fuel)) i l.fuel AA;have:=hg.ic;omega
theorem YM{A:fq}(fl:A.most<256){l:ah.Lo A.aq}{γ:ah.aQ A.aH}(h:ib (ao A) l γ):γ.mu.k<256:=by obtain⟨ls,i,hi,hg⟩:=h;have h1:=hg.mM.NA;have h2:=hg.len;grind
theorem OG{A:fq}{l:ah.Lo A.aq}{γ:ah.aQ A.aH}(h:ib (ao A) l γ)(a:l.mx=.jq):γ.mu.S=false/\γ.mu.W=true:=by obtain⟨ls,i,hi,hg⟩:=h;have:=hg.mM.aaS (i:=i) AA;grind
def arT{A:fq}{l:ah.Lo A.aq}{γ:ah.aQ A.aH}(h:ib (ao A) l γ)(a:l.mx=.hand):γ.mu.S=true/\γ.mu.L=false/\γ.mu.W=false/\1<=γ.mu.k:=by obtain⟨ls,i,hi,hg⟩:=h;have:=hg.mM.JY (i:=i) AA;grind
variable{n:be}
def zZ{m:be}(h:m.word=n.word):m.L=n.L/\m.W=n.W/\m.S=n.S/\m.k=n.k:=by have a1:m.L.toNat<=1:=vay _;have f:m.W.toNat<=1:=vay _;have c:m.S.toNat<=1:=vay _;have b1:n.L.toNat<=1:=vay _;have e:n.W.toNat<=1:=vay _;have d:n.S.toNat<=1:=vay _;unfold be.word at h;have e1:m.L.toNat=n.L.toNat:=AQ;have e2:m.W.toNat=n.W.toNat:=AQ;have e3:m.S.toNat=n.S.toNat:=AQ;have key:∀a b:Bool,a.toNat=b.toNat->a=b:=AF;grind
variable{o:be}{cK it old:Int}{w:aR}
section
variable{A:fq}{Stop:Bool->ah.Lo A.aq->a0->Prop}{m:Bool}{mine:dL}
variable{a2:Frame}{aI:Act}{aC:fF}{aL:Nat}{aO:uac}{aK:uab}{csZ:hH}
def arU(G:A.Good){f:Nat}{a:A.aq}{γ:ah.aQ A.aH}{sv aw:Bool}(d:¬A.left a)(fl:A.most<256)(h:∀b,A.K b\/mine b->b≠A.st)(hs:ib (ao A) ⟨.hand,false,1,f+3,a⟩ γ)(e:Behind A Stop m mine a2 aI aC aL aO aK csZ f a w):EV A Stop m mine a2 aI aC aL aO aK csZ ⟨.hand,false,1,f+3,a⟩ γ cK sv aw it (γ.mu.word:Int) w:=by
 have hk:=YM fl hs;obtain⟨j,k,i,h1⟩:=arT hs Y;have h4:bits .and .i32 (γ.mu.word:Int) 4=4:=by grind[KC]
 have h3:bits .and .i32 (γ.mu.word:Int) 3=0:=by grind[arH]
 have g:=KE γ.mu;have c:(((γ.mu.k:Nat):Int)==0)=false:=AA;refine arS G (!sv||γ.mu.k==1) ?_ d fl h4 h3 g c h e;cases sv<;>grind
def arV(G:A.Good){f a γ sv aw}(o:¬A.left a)(fl:A.most<256)(v:∀b,A.K b\/mine b->b≠A.st)(D:∀w' g k,g.a7<γ.a7->ai (ao A) mine w w'->ib (ao A) ⟨.jq,false,1,f+3,a⟩ g->qF A Stop m mine a2 aI aC aL aO aK csZ ⟨.jq,false,1,f+3,a⟩ g cK k true 0 (g.mu.word:Int) w')(E:Behind A Stop m mine a2 aI aC aL aO aK csZ f a w):OE A Stop m mine a2 aI aC aL aO aK csZ ⟨.km,false,1,f+2,a⟩ γ cK sv aw it old w:=by
 unfold OE;intros
 have hF:=ai.refl (ao A) mine w;refine bc.mk Y (λj d I c=>?_);replace hF:=ai.trans hF (ep.rw c);have F:d.a7<=γ.a7:=by grind
 have H:f+2<=d.a7:=U6 c.sees;by_cases h0:d.mu.sema=0
 .refine .wait (stepG_semacquire_wait (ad:=ah.lp A) Y Y Y func146 UY UZ U0 U1 Bk ?_) Y (.inl ⟨Y,h0⟩) Ke;have:=J2 c.mt.1;grind
 have x:((d.mu.sema:Nat):Int)-1=((d.mu.sema-1:Nat):Int):=AQ;have s:=wA (A:=A) (mine:=mine) v j 1 none (.int .u32 ((d.mu.sema-1:Nat):Int));cases t:d.mu.S with
 |false=>
  refine OF G c (y:=.jq) (m1:={d.mu with sema:=d.mu.sema-1}) (f1:=f+3) (stepG_semacquire Y Y An Y func146 UY UZ U0 U1 Bk (J2 c.mt.1) AQ (qw c.mt.1 1 none)) x Y Y o (aor t AQ AS) AS (.inr AQ) ?_;clear c;refine bf G ?_;replace hF:=ai.trans hF s;u_c vea ai.trans hF
  refine vaj (λi l=>⟨Y,λu z=>?_⟩);replace hF:=ai.trans hF l;have B:u.a7<γ.a7:=by grind
  exact YR G (λw' g k r p n=>arR G (by grind[KC,YM,OG]) (λw'' q=>D w'' g k (r.elim (λe=>AA) (λe=>Nat.lt_trans e B)) (ai.trans hF (ai.trans p q)) n)) ..
 |true=>
  refine OF G c (y:=.hand) (m1:={d.mu with sema:=d.mu.sema-1}) (f1:=f+3) (stepG_semacquire Y Y An Y func146 UY UZ U0 U1 Bk (J2 c.mt.1) AQ (qw c.mt.1 1 none)) x Y Y o (aos t AQ AS) AS (.inr AQ) ?_;clear c;refine bf G ?_;replace hF:=ai.trans hF s;u_c vea ai.trans hF
  refine vaj (λi l=>⟨Y,λu z=>?_⟩);replace hF:=ai.trans hF l;exact YR G (λw' g k r p n=>arU G o fl v n (λw'' C q=>E w'' C (ai.trans hF (ai.trans p q)))) ..
def Ht(G:A.Good){f ic:Nat}{x y:b5}{a:A.aq}{γ:ah.aQ A.aH}{new:Int}{sv aw:Bool}(p:¬A.left a)(r:∀b,A.K b\/mine b->b≠A.st)(z:1<=ic)(i:be->be)(ht:∀mu:be,mu.word=o.word->mm x y mu (i mu) ic (f+2)/\((i mu).word:Int)=new/\(i mu).sema=mu.sema)(u:∀w' e,e.a7<γ.a7->ai (ao A) mine w w'->wy A Stop m mine a2 aI aC aL aO aK csZ ⟨y,false,1,f+2,a⟩ e cK sv aw it (o.word:Int) true w')(t:∀w' e,(e=γ\/e.a7<γ.a7)->e.mu.word≠o.word->ai (ao A) mine w w'->wy A Stop m mine a2 aI aC aL aO aK csZ ⟨x,false,1,ic,a⟩ e cK sv aw it (o.word:Int) false w'):
 KB A Stop m mine a2 aI aC aL aO aK csZ ⟨x,false,1,ic,a⟩ γ cK sv aw it (o.word:Int) new w:=by
 unfold KB;intros
 have hF:=ai.refl (ao A) mine w;refine bc.mk Y (λh g s d=>?_);replace hF:=ai.trans hF (ep.rw d);have q:=(dE G).less _ _ _ s;have v:ic<=g.a7:=U6 d.sees;by_cases k:g.mu.word=o.word
 .obtain⟨h1,h2,h3⟩:=ht g.mu k;have hcell:=mn d.mt.1;rw[k]at hcell;refine Bt G d (y:=y) (m1:=i g.mu) (f1:=f+2) (stepG_cas_hit Y Y An Y func124 zj zk zl .i32 zm Y Y Y hcell (qw d.mt.1 0 none)) h2.symm Y AS h3 p h1 AS ?_;replace hF:=ai.trans hF (wA (A:=A) (mine:=mine) r h 0 none (.int .i32 ((i g.mu).word:Int)));clear d;refine bf G ?_;u_c vea ai.trans hF
  refine vaj (λc j=>⟨Y,λn l=>?_⟩);exact u c n (by
   grind) (ai.trans hF j) ..
 .refine NG (stepG_cas_miss Y Y An Y func124 zj zk zl .i32 zm Y Y Y (mn d.mt.1) (qw d.mt.1 0 none) AQ) Y AS ?_;clear d;refine bf G ?_;u_c vea ai.trans hF
  exact vaj (λc j=>⟨Y,λn l=>(t c g q k (ai.trans hF j) ..).ln (dE G) l⟩)
end
def Bu(A:fq)(Stop:Bool->ah.Lo A.aq->a0->Prop)(m:Bool)(mine:dL)(a2:Frame)(aI:Act)(aC:fF)(aL:Nat)(aO:uac)(aK:uab)(csZ:hH)(l:ah.Lo A.aq)(γ:ah.aQ A.aH)(old:Int)(w:aR):Prop:=
 ∀(cC dm gB jz EW tR gi gj gl gm gn gp rN rO gA gq gr gu jh gv g9 g_ hh wa wb wc wd we wh wi wj wk wl wm wo wq wt wu wv ww wx:Value),bc (ao A) prog Stop m l γ ⟨Conc.G ((base 127).at ⟨#[.pointer (some (ah.fW A)),cC,dm,gB,.int .i32 old,jz,EW,tR,gi,gj,gl,gm,gn,gp,rN,rO,gA,gq,gr,gu,jh,gv,g9,g_,hh,wa,wb,wc,wd,we,wh,wi,wj,wk,wl,wm,wo,wq,wt,wu,wv,ww,wx],[]⟩ [.code ((dV (f127.body.getD .skip)).getD .skip),.inLoop ((dV (f127.body.getD .skip)).getD .skip),.inBlock 0]) (a2.at aI (.inRegion aC (aL::aO)::aK)::csZ),w,mine⟩
def EX{A:fq}{l:ah.Lo A.aq}{γ a:ah.aQ A.aH}{v o:Nat}(b:l.mx=.eT v o)(h:¬(γ.mu.jP/\γ.mu.gR=v))(c:(ao A).ey l γ a):¬(a.mu.jP/\a.mu.gR=v):=by
 rcases c with rfl|⟨_,_,h2⟩
 .exact h
 .exact h2.2 v o b h
def YJ{A:fq}{l:ah.Lo A.aq}{γ:ah.aQ A.aH}(h:ib (ao A) l γ):IntKind.u32.wrap ((γ.mu.sema:Int)+1)=((γ.mu.sema+1:Nat):Int):=by
 obtain⟨ls,i,hi,hg⟩:=h;have h1:γ.mu.sema<=1:=by have b:γ.mu.W.toNat<=1:=vay _;cases a:γ.mu.S with|false=>have:=hg.mM.nm a;omega|true=>have:=hg.mM.st a;omega
 rw[IntKind.wrap_u32];omega
theorem arX{A:fq}{l:ah.Lo A.aq}{γ:ah.aQ A.aH}{v o:Nat}(h:ib (ao A) l γ)(b:l.mx=.eT v o)(a:γ.mu.word≠o):¬(γ.mu.jP/\γ.mu.gR=v):=by obtain⟨ls,i,hi,hg⟩:=h;rintro⟨h1,h2⟩;exact a ((hg.mM.eT i v o AA).2 h2.symm h1).symm
def YH{A:fq}(fl:A.most<=250){l:ah.Lo A.aq}{γ:ah.aQ A.aH}(h:ib (ao A) l γ):γ.mu.k<=250:=by obtain⟨ls,i,hi,hg⟩:=h;have h1:=hg.mM.NA;have h2:=hg.len;grind
def arY{m:be}(h:m.word=n.word)(a:n.jP):m.jP:=by obtain⟨e1,e2,e3,e4⟩:=zZ h;exact⟨e1.trans a.1,e2.trans a.2.1,e3.trans a.2.2.1,by rw[e4];exact a.2.2.2⟩
variable{kk:Int}{w0:aR}
section
variable{A:fq}{Stop:Bool->ah.Lo A.aq->a0->Prop}{m:Bool}{mine:dL}
variable{a2:Frame}{aI:Act}{aC:fF}{aL:Nat}{aO:uac}{aK:uab}{csZ:hH}
def arZ(G:A.Good){l:ah.Lo A.aq}{γ:ah.aQ A.aH}(hk:old / 8=kk)(c:(kk==0)=true\/((kk==0)=false/\(bits .and .i32 old 7 != 0)=true))(f:∀w' d,ai (ao A) mine w w'->(ao A).ey l γ d->bc (ao A) prog Stop m l d ⟨Conc.G (a2.at (aI.put ((aC[aL]?).bind (·.dst)) (.tuple #[])) (.inRegion aC aO::aK)) csZ,w',mine⟩):
 Bu A Stop m mine a2 aI aC aL aO aK csZ l γ old w:=by
 unfold Bu;intros
 have hF:=ai.refl (ao A) mine w;simp only[f127,vaf,dV];refine bf G ?_;rcases c with c|⟨h0,c⟩;all_goals
  repeat w_go ai.trans
  u_leave0 func127 ai.trans hF
  exact vaj (λa b=>⟨Y,λg e=>f a g (ai.trans hF b) e⟩)
def ar0(G:A.Good){f v l:Nat}{a:A.aq}{γ:ah.aQ A.aH}(z:¬A.left a)(B:∀b,A.K b\/mine b->b≠A.st)(n:o.jP)(hok:o.k<256)(hI:∀w' p,ai (ao A) mine w w'->bc (ao A) prog Stop m ⟨.idle,false,1,f+1,a⟩ p ⟨Conc.G (a2.at (aI.put ((aC[aL]?).bind (·.dst)) (.tuple #[])) (.inRegion aC aO::aK)) csZ,w',mine⟩)(u:∀w' p t,(ao A).ey ⟨.eT v l,false,1,f+5,a⟩ γ t->t.mu.word≠o.word->ib (ao A) ⟨.eT v l,false,1,f+5,a⟩ t->(ao A).ey ⟨.eT v l,false,1,f+5,a⟩ t p->ai (ao A) mine w w'->ib (ao A) ⟨.eT v l,false,1,f+5,a⟩ p->Bu A Stop m mine a2 aI aC aL aO aK csZ ⟨.eT v l,false,1,f+5,a⟩ p (p.mu.word:Int) w'):
 Bu A Stop m mine a2 aI aC aL aO aK csZ ⟨.eT v l,false,1,f+5,a⟩ γ (o.word:Int) w:=by
 unfold Bu;intros
 unfold Bu at u;have hF:=ai.refl (ao A) mine w;have hk:=KE o;have J:(((o.k:Nat):Int)==0)=false:=by have:=n.2.2.2;grind
 have K:(bits .and .i32 (o.word:Int) 7 != 0)=false:=by rw[Y1 o hok,n.1,n.2.1,n.2.2.1];rfl
 have I:=arM o hok n.2.2.2;have h2:=YX ({o with k:=o.k-1}:be) AA;simp only[f127,vaf,dV]at u⊢;refine bf G ?_;repeat w_go ai.trans
 refine ei Y hF λd c s j q h i e hF=>?_;have F:=(dE G).trans _ _ _ _ j i;by_cases x:h.mu.word=o.word
 .have hcell:=mn e.mt.1;rw[x]at hcell;obtain⟨e1,e2,e3,e4⟩:=zZ x;have hv:(({o with k:=o.k-1,W:=true}:be).word:Int)=(({h.mu with k:=h.mu.k-1,W:=true}:be).word:Int):=by grind[be.word]
  refine Bt G e (y:=.ru) (m1:={h.mu with k:=h.mu.k-1,W:=true}) (f1:=f+2) (stepG_cas_hit Y Y An Y func124 zj zk zl .i32 zm Y Y Y hcell (qw e.mt.1 0 none)) hv Y AS Y z (aox (arY x n) AS) AS ?_;replace hF:=ai.trans hF (wA (A:=A) (mine:=mine) B q 0 none (.int .i32 (({h.mu with k:=h.mu.k-1,W:=true}:be).word:Int)));clear e i j c u;refine bf G ?_;walk_nrm
  repeat w_go ai.trans
  refine ei Y hF λd c s j g r i e hF=>?_;refine OF G e (y:=.idle) (m1:={r.mu with sema:=r.mu.sema+1}) (f1:=f+1) (stepG_semrelease (ad:=ah.lp A) Y Y An Y func148 ZU OC ZJ ZC (by simp[Act.eval,ah.fW,ah.lp]) (J2 e.mt.1) (qw e.mt.1 1 none)) ?_ Y Y z (aoz Jo) AS (.inl ?_) ?_
  .exact YJ e.sees
  .exact mayWake_entry Y Y func148 OC
  replace hF:=ai.trans hF (wA (A:=A) (mine:=mine) B g 1 none (.int .u32 ((r.mu.sema+1:Nat):Int)));clear e i j c;refine bf G ?_;walk_nrm
  repeat w_go ai.trans
  u_leave0 func127 ai.trans hF
  exact vaj (λd c=>⟨Y,λs _=>hI d s (ai.trans hF c)⟩)
 .have D:=e.sees;refine NG (stepG_cas_miss Y Y An Y func124 zj zk zl .i32 zm Y Y Y (mn e.mt.1) (qw e.mt.1 0 none) AQ) Y AS ?_;clear e i j c;refine bf G ?_;walk_nrm
  repeat w_go ai.trans
  refine ei Y hF λd c s j g r i e hF=>?_;have E:=(dE G).trans _ _ _ _ j i;have C:=e.sees;refine mo (Br Y Y An Y Y (mn e.mt.1) arv) Y Y (.refl _) Y Y ?_;clear e i j c;refine bf G ?_;walk_nrm
  repeat w_nl ai.trans
  u_c stepG_inLoop ai.trans hF
  exact vaj (λd c=>⟨Y,λs H=>(u d r h F x D E (ai.trans hF c) C ..).ln (dE G) H⟩)
def ar1(G:A.Good){f v e a}(r:¬A.left a)(fl:A.most<=250)(t:∀b,A.K b\/mine b->b≠A.st)(hI:∀w' c,ai (ao A) mine w0 w'->bc (ao A) prog Stop m ⟨.idle,false,1,f+1,a⟩ c ⟨Conc.G (a2.at (aI.put ((aC[aL]?).bind (·.dst)) (.tuple #[])) (.inRegion aC aO::aK)) csZ,w',mine⟩)(s:∀w' c,ai (ao A) mine w0 w'->¬(c.mu.jP/\c.mu.gR=v)->bc (ao A) prog Stop m ⟨.eT v e,false,1,f+5,a⟩ c ⟨Conc.G (a2.at (aI.put ((aC[aL]?).bind (·.dst)) (.tuple #[])) (.inRegion aC aO::aK)) csZ,w',mine⟩):
 ∀N γ(o:be)w,o.k<=250->(¬(γ.mu.jP/\γ.mu.gR=v)\/(o.jP/\e=o.word))->ai (ao A) mine w0 w->γ.a7*2+(if o.word=γ.mu.word then 0 else 1)<N->Bu A Stop m mine a2 aI aC aL aO aK csZ ⟨.eT v e,false,1,f+5,a⟩ γ (o.word:Int) w:=by
 intro N;induction N with
 |zero=>grind
 |succ N q=>
  intro γ o w hk d j a5;have n:o.k<256:=AQ;by_cases g:o.jP
  .refine ar0 G r t g n (λw' c h=>hI w' c (ai.trans j h)) (λw' c l y h2 h3 i x u=>?_);have k:¬(l.mu.jP/\l.mu.gR=v):=by
    rcases d with d|⟨_,d⟩
    .exact EX Y d y
    grind[arX]
   refine q c c.mu w' (YH fl u) (.inl (EX Y k i)) (ai.trans j x) ?_;grind
  .have p:¬(γ.mu.jP/\γ.mu.gR=v):=d.resolve_right (λh=>g h.1);refine arZ G (KE o) ?_ (λw' c h i=>s w' c (ai.trans j h) (EX Y p i));by_cases z:o.k=0
   .grind
   .refine .inr ⟨AA,?_⟩;rw[Y1 o n];have B:¬(o.L=false/\o.W=false/\o.S=false):=λh=>g ⟨h.1,h.2.1,h.2.2,AQ⟩;grind
end
def YF(m:be)(hk:m.k<256)(a:m.L=false):IntKind.wrap .i32 ((m.word:Int)+1)=(({m with L:=true}:be).word:Int):=by grind[Bool.toNat_le,IntKind.wrap_i32,be.word]
section
variable{A:fq}{Stop:Bool->ah.Lo A.aq->a0->Prop}{m:Bool}{mine:dL}
def KK{P:cE}{main:Bool}{b:Frame}{a:Act}{todo:uab}{c:Frame}{cs:hH}{fn:Func}{K:Goroutine->aR->Array Event->Prop}(hn:b.kind=.deferred)(hd:a.defers=[])(e:P.funcs[b.fn]?=some fn)(d:fn.results=#[])(f:c.mode=.returning)(h:K (Conc.G c cs) w #[]):
 (stepG P main (Conc.G {b.at a todo with mode:=.returning} (c::cs)) w).goes K:=by
 simp_all[stepG_leave_deferred,results_none,events_results_none]
section
variable{a2:Frame}{aI:Act}{aC:fF}{aL:Nat}{aO:uac}{aK:uab}{csZ:hH}
def ar3(G:A.Good){f v g:Nat}{a:A.aq}(q:¬A.left a)(fl:A.most<=250)(u:∀b,A.K b\/mine b->b≠A.st)(j:o.L=false)(r:o.S=false)(hk:o.k<=250)(hI:∀w' c,ai (ao A) mine w0 w'->bc (ao A) prog Stop m ⟨.idle,false,1,f+1,a⟩ c ⟨Conc.G (a2.at (aI.put ((aC[aL]?).bind (·.dst)) (.tuple #[])) (.inRegion aC aO::aK)) csZ,w',mine⟩)(s:∀w' c,ai (ao A) mine w0 w'->¬(c.mu.jP/\c.mu.gR=v)->bc (ao A) prog Stop m ⟨.eT v g,false,1,f+5,a⟩ c ⟨Conc.G (a2.at (aI.put ((aC[aL]?).bind (·.dst)) (.tuple #[])) (.inRegion aC aO::aK)) csZ,w',mine⟩)(w:aR)(γ:ah.aQ A.aH)(t:ai (ao A) mine w0 w)(n:¬(γ.mu.jP/\γ.mu.gR=v)\/(o.jP/\g=o.word)):
 bc (ao A) prog Stop m ⟨.eT v g,false,1,f+5,a⟩ γ ⟨Conc.G ((base 127).at ⟨#[.pointer (some (ah.fW A)),.int .i32 (o.word:Int),.U,.U,.U,.U,.U,.U,.U,.U,.U,.U,.U,.U,.U,.U,.U,.U,.U,.U,.U,.U,.U,.U,.U,.U,.U,.U,.U,.U,.U,.U,.U,.U,.U,.U,.U,.U,.U,.U,.U,.U,.U],[]⟩ [.code (f127.body.getD .skip)]) (a2.at aI (.inRegion aC (aL::aO)::aK)::csZ),w,mine⟩:=by
 have hF:=t;have x:o.k<256:=AQ;have i:=λ(c:ah.aQ A.aH)(w':aR)(h:ai (ao A) mine w0 w')(k:¬(c.mu.jP/\c.mu.gR=v)\/(o.jP/\g=o.word))=>ar1 G q fl u hI s (c.a7*2+(if o.word=c.mu.word then 0 else 1)+1) c o w' hk k h Jo;unfold Bu at i;have e1:=YF o x j;have e2:bits .and .i32 (({o with L:=true}:be).word:Int) 1=1:=by grind[U4]
 have e3:bits .and .i32 (o.word:Int) 4=0:=by grind[KC]
 simp only[f127,vaf,dV]at i⊢;clear j r;refine bf G ?_;repeat w_but "code.loop" ai.trans
 u_c stepG_loop ai.trans hF
 exact vaj (λd e=>⟨Y,λy p=>i y d (ai.trans hF e) (n.imp (λh=>EX (A:=A) (l:=⟨.eT v g,false,1,f+5,a⟩) Y h p) id) ..⟩)
def ar4(G:A.Good){f:Nat}{a:A.aq}(k:¬A.left a)(p:∀b,A.K b\/mine b->b≠A.st)(j:o.L=false)(l:o.S=true)(hk:o.k<=250)(hI:∀w' r,ai (ao A) mine w0 w'->bc (ao A) prog Stop m ⟨.idle,false,1,f+1,a⟩ r ⟨Conc.G (a2.at (aI.put ((aC[aL]?).bind (·.dst)) (.tuple #[])) (.inRegion aC aO::aK)) csZ,w',mine⟩)(w:aR)(γ:ah.aQ A.aH)(n:ai (ao A) mine w0 w):
 bc (ao A) prog Stop m ⟨.ps,false,1,f+2,a⟩ γ ⟨Conc.G ((base 127).at ⟨#[.pointer (some (ah.fW A)),.int .i32 (o.word:Int),.U,.U,.U,.U,.U,.U,.U,.U,.U,.U,.U,.U,.U,.U,.U,.U,.U,.U,.U,.U,.U,.U,.U,.U,.U,.U,.U,.U,.U,.U,.U,.U,.U,.U,.U,.U,.U,.U,.U,.U,.U],[]⟩ [.code (f127.body.getD .skip)]) (a2.at aI (.inRegion aC (aL::aO)::aK)::csZ),w,mine⟩:=by
 have hF:=n;have q:o.k<256:=AQ;have e1:=YF o q j;have e2:bits .and .i32 (({o with L:=true}:be).word:Int) 1=1:=by grind[U4]
 have e3:bits .and .i32 (o.word:Int) 4=4:=by grind[KC]
 simp only[f127,vaf];clear j l;refine bf G ?_;repeat w_go ai.trans
 refine ei Y hF λd c i t e h s g hF=>?_;refine OF G g (y:=.idle) (m1:={h.mu with sema:=h.mu.sema+1}) (f1:=f+1) (stepG_semrelease (ad:=ah.lp A) Y Y An Y func148 ZU OC ZJ ZC (by simp[Act.eval,ah.fW,ah.lp]) (J2 g.mt.1) (qw g.mt.1 1 none)) (YJ g.sees) Y Y k (aoA Jo) AS (.inl (mayWake_entry Y Y func148 OC)) ?_;replace hF:=ai.trans hF (wA (A:=A) (mine:=mine) p e 1 none (.int .u32 ((h.mu.sema+1:Nat):Int)));clear g s t c;refine bf G ?_;walk_nrm
 repeat w_go ai.trans
 u_leave0 func127 ai.trans hF
 exact vaj (λd c=>⟨Y,λi _=>hI d i (ai.trans hF c)⟩)
end
def ar5(G:A.Good){f F:Nat}(Z:f+8<=F){a' a:A.aq}(s:¬A.left a)(O:A.past a=A.past a')(fl:A.most<=250)(B:∀b,A.K b\/mine b->b≠A.st){c:Frame}{cs:hH}(J:c.mode=.returning)(V:(Conc.G c cs).status=.running)(hT:∀w' C,ai (ao A) mine w0 w'->bc (ao A) prog Stop m ⟨.idle,false,0,f,a⟩ C ⟨Conc.G c cs,w',mine⟩)(w:aR)(γ:ah.aQ A.aH)(W:ai (ao A) mine w0 w)(R:∀C,(ao A).ey (⟨.own,true,0,F,a'⟩:ah.Lo A.aq) γ C->∀(xs:List A.aq)(i:Nat),xs[i]?=some a'->A.xH C.am xs->A.xH C.am (xs.set i a)):
 bc (ao A) prog Stop m ⟨.own,true,0,F,a'⟩ γ ⟨Conc.G ((baseD 89).at ⟨#[.pointer (some (ah.fW A)),.U,.U,.U,.U,.U],[]⟩ [.code (f89.body.getD .skip)]) (c::cs),w,mine⟩:=by
 have hF:=W;simp only[f89,vaf];refine bf G ?_;repeat w_go ai.trans
 u_call func113 Zr f113 ai.trans hF
 repeat w_go ai.trans
 refine ei Y hF λn d x p k g o j hF=>?_;refine mo (Br Y Y An Y Y (mn j.mt.1) Zl) Y Y (.refl _) Y Y ?_;have z:=(dE G).trans _ _ _ _ p o;clear j o p d;refine bf G ?_;walk_nrm
 repeat w_go ai.trans
 refine ei Y hF λn d E p k I o j hF=>?_;refine mo (Hs Y Y An Y Y (mn j.mt.1)) Y Y (.refl _) Y Y ?_;replace z:=(dE G).trans _ _ _ _ z ((dE G).trans _ _ _ _ p o);clear j o p d;refine bf G ?_;walk_nrm
 repeat w_go ai.trans
 refine ei Y hF λn d x p k g o j hF=>?_;replace z:=(dE G).trans _ _ _ _ z ((dE G).trans _ _ _ _ p o);refine aoJ G j (a1:=a) (f1:=f+7) (vcq .releaseMerge AS Y Y An Y func68 UU UV UW UX Bk) Y s O Y Y Z (R _ z) ?_;clear j o p d z R;refine bf G ?_;walk_nrm
 repeat w_go ai.trans
 refine ei Y hF λn d x p k g o j hF=>?_;refine tu (d1:=1) G j Jv (vbz .disable AS Y Y An Y func69 DT DU DV DW) Y s (tr (f1:=f+6) Jo _) AS Y ?_;clear j o p d;refine bf G ?_;walk_nrm
 repeat w_go ai.trans
 refine ei Y hF λn d x p k g o j hF=>?_;have hk:g.mu.k<=250:=YH fl j.sees;have X:g.mu.k<256:=AQ;have H:g.mu.L=true:=by obtain⟨ls,cT,hi,hg⟩:=j.sees;exact hg.mM.NB (G3 hi)
 have hv:=arL g.mu X H;cases K:g.mu.S with
 |true=>
  refine Bt G j (y:=.ps) (m1:={g.mu with L:=false}) (f1:=f+2) (vcu Y Y An Y func126 Ku Kv Kw .i32 Kx Y Y (mn j.mt.1) (qw j.mt.1 0 none)) hv Y AS Y s (aou K AS) AS ?_;rw[hv];replace hF:=ai.trans hF (wA (A:=A) (mine:=mine) B k 0 none (.int .i32 (({g.mu with L:=false}:be).word:Int)));have q:((({g.mu with L:=false}:be).word:Int) != 0)=true:=by
   have:({g.mu with L:=false}:be).word≠0:=λe=>by have:=(U3 e).2.2.1;grind
   grind
  clear hv H;generalize N:({g.mu with L:=false}:be)=P at q hF⊢;clear j o p d;refine bf G ?_;walk_nrm
  repeat w_go ai.trans
  u_call func127 Zh f127 ai.trans hF
  refine vaj (λr v=>⟨Y,λE _=>ar4 G s B AA AA AA (λt I u=>?_) r E (ai.refl _ _ _)⟩);replace hF:=ai.trans hF (ai.trans v u);clear v u q;refine bf G ?_;walk_nrm
  repeat w_go ai.trans
  refine ei Y hF λn d x p k g o j hF=>?_;refine tu (d1:=0) G j Jz (vbz .enable AS Y Y An Y func70 rJ rK rL rM) Y s (tr (f1:=f) Jo _) AS Y ?_;clear j o p d;refine bf G ?_;walk_nrm
  repeat w_go ai.trans
  u_leave0 func113 ai.trans hF
  repeat w_go ai.trans
  u_in ai.trans hF
  refine KK Y Y func89 Y J ⟨DN,?_⟩;grind[Goes.stop,ai.trans]
 |false=>
  by_cases h0:({g.mu with L:=false}:be).word=0
  .have S:g.mu.k=0:=(U3 h0).2.2.2;refine Bt G j (y:=.idle) (m1:={g.mu with L:=false}) (f1:=f+5) (vcu Y Y An Y func126 Ku Kv Kw .i32 Kx Y Y (mn j.mt.1) (qw j.mt.1 0 none)) hv Y AS Y s (aov K S Jo) AS ?_;rw[hv,h0];replace hF:=ai.trans hF (wA (A:=A) (mine:=mine) B k 0 none (.int .i32 ((0:Nat):Int)));clear hv H h0 S;clear j o p d;refine bf G ?_;walk_nrm
   repeat w_go ai.trans
   refine ei Y hF λn d x p k g o j hF=>?_;refine tu (d1:=0) G j Jz (vbz .enable AS Y Y An Y func70 rJ rK rL rM) Y s (tr (f1:=f) AS _) AS Y ?_;clear j o p d;refine bf G ?_;walk_nrm
   repeat w_go ai.trans
   u_leave0 func113 ai.trans hF
   repeat w_go ai.trans
   u_in ai.trans hF
   refine KK Y Y func89 Y J ⟨DN,?_⟩;grind[Goes.stop,ai.trans]
  .refine Bt G j (y:=.eT (g.mu.gR+1) ({g.mu with L:=false}:be).word) (m1:={g.mu with L:=false,gR:=g.mu.gR+1}) (f1:=f+5) (vcu Y Y An Y func126 Ku Kv Kw .i32 Kx Y Y (mn j.mt.1) (qw j.mt.1 0 none)) hv Y AS Y s (aow K Jo) AS ?_;rw[hv];replace hF:=ai.trans hF (wA (A:=A) (mine:=mine) B k 0 none (.int .i32 (({g.mu with L:=false}:be).word:Int)));have D:¬(({g.mu with L:=false,gR:=g.mu.gR+1}:be).jP/\({g.mu with L:=false,gR:=g.mu.gR+1}:be).gR=g.mu.gR+1)\/(({g.mu with L:=false}:be).jP/\({g.mu with L:=false}:be).word=({g.mu with L:=false}:be).word):=by
    by_cases U:({g.mu with L:=false}:be).jP
    .grind
    .exact .inl λh=>U h.1
   have q:((({g.mu with L:=false}:be).word:Int) != 0)=true:=AA;clear hv H h0;show bc (ao A) prog Stop m _ _ ⟨_,k.setCell (ah.fW A) (.int .i32 (({g.mu with L:=false}:be).word:Int)),_⟩;generalize N:({g.mu with L:=false}:be)=P at q hF D⊢;clear j o p d;refine bf G ?_;walk_nrm
   repeat w_go ai.trans
   u_call func127 Zh f127 ai.trans hF
   refine vaj (λr v=>⟨Y,λE T=>ar3 G s fl B AA AA AA (λt I u=>?_) (λt I u M=>?_) r E (ai.refl _ _ _) (D.imp (λh=>EX (A:=A) (l:=⟨.eT (g.mu.gR+1) P.word,false,1,f+5,a⟩) Y h T) id)⟩);focus
    replace hF:=ai.trans hF (ai.trans v u);clear v u q;refine bf G ?_;walk_nrm
    repeat w_go ai.trans
    refine ei Y hF λn d x p k g o j hF=>?_;refine tu (d1:=0) G j Jz (vbz .enable AS Y Y An Y func70 rJ rK rL rM) Y s (tr (f1:=f) Jo _) AS Y ?_
   rotate_left
   focus
    replace hF:=ai.trans hF (ai.trans v u);clear v u q;refine bf G ?_;walk_nrm
    repeat w_go ai.trans
    refine ei Y hF λn d x p Q z0 o j hF=>?_;refine tu (d1:=0) G j Jz (vbz .enable AS Y Y An Y func70 rJ rK rL rM) Y s (aoy (f1:=f) (EX (A:=A) Y (EX (A:=A) (l:=⟨.eT (g.mu.gR+1) P.word,false,1,f+5,a⟩) Y M p) o) AS) AS Y ?_
   rotate_left
   all_goals
    clear j o p d;refine bf G ?_;walk_nrm
    repeat w_go ai.trans
    u_leave0 func113 ai.trans hF
    repeat w_go ai.trans
    u_in ai.trans hF
    refine KK Y Y func89 Y J ⟨DN,?_⟩;grind[Goes.stop,ai.trans]
def U_(G:A.Good){f:Nat}{a:A.aq}(e:¬A.left a)(fl:A.most<=250)(l:∀b,A.K b\/mine b->b≠A.st){c:Frame}{cs:hH}(g:c.mode=.returning)(d:(Conc.G c cs).status=.running)(j:∀w' n,ai (ao A) mine w0 w'->bc (ao A) prog Stop m ⟨.idle,false,0,f,a⟩ n ⟨Conc.G c cs,w',mine⟩)(w:aR)(γ:ah.aQ A.aH)(k:ai (ao A) mine w0 w):
 bc (ao A) prog Stop m ⟨.own,true,0,f+8,a⟩ γ ⟨Conc.G ((baseD 89).at ⟨#[.pointer (some (ah.fW A)),.U,.U,.U,.U,.U],[]⟩ [.code (f89.body.getD .skip)]) (c::cs),w,mine⟩:=
 ar5 G JR e Y fl l g d j w γ k λ_ _ xs i hi h=>by obtain⟨h1,h2⟩:=vab.1 hi;rw[<-h2,List.set_getElem_self h1];exact h
end
def rP(p:Prop):Prop:=p
theorem rP.out{p}(h:rP p):p:=h
section
variable{A:fq}{Stop:Bool->ah.Lo A.aq->a0->Prop}{m:Bool}{mine:dL}
variable{a2:Frame}{aI:Act}{aC:fF}{aL:Nat}{aO:uac}{aK:uab}{csZ:hH}
theorem asA(G:A.Good){l:ah.Lo A.aq}{γ:ah.aQ A.aH}{sv:Bool}(a5:∀w' c,(ao A).ey l γ c->ai (ao A) mine w w'->uY A Stop m mine a2 aI aC aL aO aK csZ l c cK sv true it old w'):
 x1 A Stop m mine a2 aI aC aL aO aK csZ l γ cK sv true it old w:=by
 unfold x1 j7;intros
 unfold uY j7 at a5;have hF:=ai.refl (ao A) mine w;simp only[f125,vaf,dV,lz,eu,Hw,Nat.reduceBEq,vah,↓reduceIte]at a5⊢;refine bf G ?_;u_c vel ai.trans hF
 u_c vel ai.trans hF
 repeat w_but "code.seq" ai.trans
 exact vaj (λa b=>⟨Y,λe d=>a5 a e d (ai.trans hF b) ..⟩)
theorem asB(G:A.Good){l:ah.Lo A.aq}{γ:ah.aQ A.aH}{sv:Bool}(h2:bits .and .i32 old 2=2)(a5:∀w' c,(ao A).ey l γ c->ai (ao A) mine w w'->uY A Stop m mine a2 aI aC aL aO aK csZ l c cK sv false it old w'):
 x1 A Stop m mine a2 aI aC aL aO aK csZ l γ cK sv false it old w:=by
 unfold x1 j7;intros
 unfold uY j7 at a5;have hF:=ai.refl (ao A) mine w;simp only[f125,vaf,dV,lz,eu,Hw,Nat.reduceBEq,vah,↓reduceIte]at a5⊢;refine bf G ?_;u_c vel ai.trans hF
 u_c vel ai.trans hF
 repeat w_but "code.seq" ai.trans
 exact vaj (λa b=>⟨Y,λe d=>a5 a e d (ai.trans hF b) ..⟩)
theorem asC(G:A.Good){l:ah.Lo A.aq}{γ:ah.aQ A.aH}{sv:Bool}(h2:bits .and .i32 old 2=0)(hk:old / 8=0)(a5:∀w' c,(ao A).ey l γ c->ai (ao A) mine w w'->uY A Stop m mine a2 aI aC aL aO aK csZ l c cK sv false it old w'):
 x1 A Stop m mine a2 aI aC aL aO aK csZ l γ cK sv false it old w:=by
 unfold x1 j7;intros
 unfold uY j7 at a5;have hF:=ai.refl (ao A) mine w;simp only[f125,vaf,dV,lz,eu,Hw,Nat.reduceBEq,vah,↓reduceIte]at a5⊢;refine bf G ?_;u_c vel ai.trans hF
 u_c vel ai.trans hF
 repeat w_but "code.seq" ai.trans
 exact vaj (λa b=>⟨Y,λe d=>a5 a e d (ai.trans hF b) ..⟩)
def asD(G:A.Good){f a γ new sv}(D:¬A.left a)(E:∀b,A.K b\/mine b->b≠A.st)(l:rP (o.L=true/\o.S=false/\o.W=false))(h2:bits .and .i32 (o.word:Int) 2=0)(hk:(o.word:Int) / 8=kk)(H:(kk != 0)=true)(F:bits .or .i32 (o.word:Int) 2=new)(C:rP (new=(({o with W:=true}:be).word:Int)))(v:∀w' j,j.a7<γ.a7->ai (ao A) mine w w'->uY A Stop m mine a2 aI aC aL aO aK csZ ⟨.jq,false,1,f+4,a⟩ j cK sv true it (o.word:Int) w')(u:∀w' j,(j=γ\/j.a7<γ.a7)->ai (ao A) mine w w'->uY A Stop m mine a2 aI aC aL aO aK csZ ⟨.mL,false,1,f+5,a⟩ j cK sv false it (o.word:Int) w'):
 x1 A Stop m mine a2 aI aC aL aO aK csZ ⟨.mL,false,1,f+5,a⟩ γ cK sv false it (o.word:Int) w:=by
 unfold x1 j7;intros
 unfold uY j7 at v u;have hF:=ai.refl (ao A) mine w;simp only[f125,vaf,dV,lz,eu,Hw,Nat.reduceBEq,vah,↓reduceIte]at v u⊢;refine bf G ?_;u_c vel ai.trans hF
 u_c vel ai.trans hF
 repeat w_but "code.seq" ai.trans
 refine ei Y hF λx e J t k c s i hF=>?_;have B:=(dE G).less _ _ _ ((dE G).trans _ _ _ _ t s);have I:f+5<=c.a7:=U6 i.sees;by_cases z:c.mu.word=o.word
 .obtain⟨e1,e2,e3,e4⟩:=zZ z;have hcell:=mn i.mt.1;rw[z]at hcell;have hv:new=(({c.mu with W:=true}:be).word:Int):=by rw[rP.out C];simp only[be.word,e1,e3,e4]
  refine Bt G i (y:=.jq) (m1:={c.mu with W:=true}) (f1:=f+4) (stepG_cas_hit Y Y An Y func124 zj zk zl .i32 zm Y Y Y hcell (qw i.mt.1 0 none)) hv Y AS Y D (aoq (e1.trans l.out.1) (e3.trans l.out.2.1) (e2.trans l.out.2.2) Jo) AS ?_;replace hF:=ai.trans hF (wA (A:=A) (mine:=mine) E k 0 none (.int .i32 (({c.mu with W:=true}:be).word:Int)));clear i s t e;refine bf G ?_;walk_nrm
  repeat w_but "code.seq" ai.trans
  refine vaj (λd p=>⟨Y,λr n=>?_⟩);exact v d r (by
   have q:∀g:ah.aQ A.aH,(g=({c with mu:={c.mu with W:=true},a7:=c.a7-1}:ah.aQ A.aH)\/g.a7<c.a7-1)->g.a7<c.a7:=by
    rintro g (rfl|h)
    .show c.a7-1<c.a7;omega
    .omega
   have:=q r (Or.imp id (λh=>h.1) n);rcases B with e0|e0
   .simp_all
   .exact Nat.lt_trans this e0) (ai.trans hF p) ..
 .refine NG (stepG_cas_miss Y Y An Y func124 zj zk zl .i32 zm Y Y Y (mn i.mt.1) (qw i.mt.1 0 none) AQ) Y AS ?_;clear i s t e;refine bf G ?_;walk_nrm
  repeat w_but "code.seq" ai.trans
  exact vaj (λd p=>⟨Y,λr n=>(u d c B (ai.trans hF p) ..).ln (dE G) n⟩)
