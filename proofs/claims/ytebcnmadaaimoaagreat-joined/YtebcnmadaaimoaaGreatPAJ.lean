import Derived.Test.YtebcnmadaaimoaaGreatPAF
import Derived.Test.YtebcnmadaaimoaaGreatPAI
set_option linter.all false
set_option maxRecDepth 100000
set_option maxHeartbeats 16000000
namespace Go.Proofs.YtebcnmadaaimoaaGreat
open Go.Proofs.Tryz
namespace bR
open Conc RowKit Conc.Lib ConcR.Gen ConcM az bo ag
def TX{A:fe}{l:ag.Lo A.ap}{γ:ag.aN A.aK}(h:ij (al A) l γ):l.fuel<=γ.a6:=by obtain⟨ls,i,hi,hg⟩:∃(ls:List (ag.Lo A.ap))(i:Nat),ls[i]?=some l/\tW A γ ls:=h;have:=MJ (ls.map (·.fuel)) i l.fuel AF;have:=hg.hY;omega
theorem P3{A:fe}(eR:A.most<256){l:ag.Lo A.ap}{γ:ag.aN A.aK}(h:ij (al A) l γ):γ.mu.k<256:=by obtain⟨ls,i,hi,hg⟩:=h;have b:=hg.l4.MG;have a:=hg.len;grind
theorem Ob{A:fe}{l:ag.Lo A.ap}{γ:ag.aN A.aK}(h:ij (al A) l γ)(a:l.mx=.jv):γ.mu.S=false/\γ.mu.W=true:=by obtain⟨ls,i,hi,hg⟩:=h;have:=hg.l4.YV (i:=i) AF;grind
def arN{A:fe}{l:ag.Lo A.ap}{γ:ag.aN A.aK}(h:ij (al A) l γ)(a:l.mx=.hand):γ.mu.S=true/\γ.mu.L=false/\γ.mu.W=false/\1<=γ.mu.k:=by obtain⟨ls,i,hi,hg⟩:=h;have:=hg.l4.I5 (i:=i) AF;grind
variable{n:bn}
def zE{m:bn}(h:m.word=n.word):m.L=n.L/\m.W=n.W/\m.S=n.S/\m.k=n.k:=by have a1:m.L.toNat<=1:=vaz _;have f:m.W.toNat<=1:=vaz _;have g:m.S.toNat<=1:=vaz _;have b1:n.L.toNat<=1:=vaz _;have b2:n.W.toNat<=1:=vaz _;have i:n.S.toNat<=1:=vaz _;unfold bn.word at h;have e:m.L.toNat=n.L.toNat:=AX;have d:m.W.toNat=n.W.toNat:=AX;have c:m.S.toNat=n.S.toNat:=AX;have key:∀a b:Bool,a.toNat=b.toNat->a=b:=AU;grind
variable{o:bn}{cA it old:Int}{w:aL}
section
variable{A:fe}{Stop:Bool->ag.Lo A.ap->aX->Prop}{m:Bool}{mine:c7}
variable{a2:Frame}{aF:Act}{aC:du}{aJ:Nat}{aO:e8}{aH:fC}{csZ:dZ}
def arO(G:A.Good){f:Nat}{a:A.ap}{γ:ag.aN A.aK}{sv aw:Bool}(d:¬A.left a)(eR:A.most<256)(j:∀b,A.K b\/mine b->b≠A.st)(hs:ij (al A) ⟨.hand,false,1,f+3,a⟩ γ)(g:Behind A Stop m mine a2 aF aC aJ aO aH csZ f a w):Em A Stop m mine a2 aF aC aJ aO aH csZ ⟨.hand,false,1,f+3,a⟩ γ cA sv aw it (γ.mu.word:Int) w:=by
 have hk:=P3 eR hs;obtain⟨hS,n,k,l⟩:=arN hs U;have h:bits .and .i32 (γ.mu.word:Int) 4=4:=by grind[Ke]
 have i:bits .and .i32 (γ.mu.word:Int) 3=0:=by grind[arB]
 have e:=Kg γ.mu;have c:(((γ.mu.k:Nat):Int)==0)=false:=AF;refine arM G (!sv||γ.mu.k==1) ?_ d eR h i e c j g;cases sv<;>grind
def arP(G:A.Good){f:Nat}{a:A.ap}{γ:ag.aN A.aK}{sv aw:Bool}(o:¬A.left a)(eR:A.most<256)(u:∀b,A.K b\/mine b->b≠A.st)(D:∀w' g k,g.a6<γ.a6->ak (al A) mine w w'->ij (al A) ⟨.jv,false,1,f+3,a⟩ g->qk A Stop m mine a2 aF aC aJ aO aH csZ ⟨.jv,false,1,f+3,a⟩ g cA k true 0 (g.mu.word:Int) w')(C:Behind A Stop m mine a2 aF aC aJ aO aH csZ f a w):N_ A Stop m mine a2 aF aC aJ aO aH csZ ⟨.kf,false,1,f+2,a⟩ γ cA sv aw it old w:=by
 unfold N_;intros
 have hF:=ak.refl (al A) mine w;refine bg.mk U (λj d F c=>?_);replace hF:=ak.trans hF (dP.rw c);have iH:d.a6<=γ.a6:=by grind
 have E:f+2<=d.a6:=TX c.sees;by_cases h0:d.mu.sema=0
 .refine .wait (stepG_semacquire_wait (ad:=ag.lf A) U U U func146 TQ TR TS TT Bn ?_) U (.inl ⟨U,h0⟩) K8;have:=I9 c.mt.1;grind
 have v:((d.mu.sema:Nat):Int)-1=((d.mu.sema-1:Nat):Int):=AX;have s:=vZ (A:=A) (mine:=mine) u j 1 none (.int .u32 ((d.mu.sema-1:Nat):Int));cases hS:d.mu.S with
 |false=>
  refine Oa G c (y:=.jv) (m1:={d.mu with sema:=d.mu.sema-1}) (f1:=f+3) (stepG_semacquire U U Ap U func146 TQ TR TS TT Bn (I9 c.mt.1) AX (pV c.mt.1 1 none)) v U U o (al3 hS AX Ab) Ab (.inr AX) ?_;clear c;refine a9 G ?_;replace hF:=ak.trans hF s;u_c veb ak.trans hF
  refine vah (λi l=>⟨U,λt x=>?_⟩);replace hF:=ak.trans hF l;have B:t.a6<γ.a6:=by grind
  exact P4 G (λw' g k r p n=>arL G (by grind[Ke,P3,Ob]) (λw'' q=>D w'' g k (r.elim (λe=>AF) (λe=>Nat.lt_trans e B)) (ak.trans hF (ak.trans p q)) n)) ..
 |true=>
  refine Oa G c (y:=.hand) (m1:={d.mu with sema:=d.mu.sema-1}) (f1:=f+3) (stepG_semacquire U U Ap U func146 TQ TR TS TT Bn (I9 c.mt.1) AX (pV c.mt.1 1 none)) v U U o (al4 hS AX Ab) Ab (.inr AX) ?_;clear c;refine a9 G ?_;replace hF:=ak.trans hF s;u_c veb ak.trans hF
  refine vah (λi l=>⟨U,λt x=>?_⟩);replace hF:=ak.trans hF l;exact P4 G (λw' g k r p n=>arO G o eR u n (λw'' z q=>C w'' z (ak.trans hF (ak.trans p q)))) ..
def GR(G:A.Good){f hY:Nat}{x y:b6}{a:A.ap}{γ:ag.aN A.aK}{new:Int}{sv aw:Bool}(p:¬A.left a)(t:∀b,A.K b\/mine b->b≠A.st)(C:1<=hY)(i:bn->bn)(ht:∀mu:bn,mu.word=o.word->lZ x y mu (i mu) hY (f+2)/\((i mu).word:Int)=new/\(i mu).sema=mu.sema)(z:∀w' e,e.a6<γ.a6->ak (al A) mine w w'->vX A Stop m mine a2 aF aC aJ aO aH csZ ⟨y,false,1,f+2,a⟩ e cA sv aw it (o.word:Int) true w')(v:∀w' e,(e=γ\/e.a6<γ.a6)->e.mu.word≠o.word->ak (al A) mine w w'->vX A Stop m mine a2 aF aC aJ aO aH csZ ⟨x,false,1,hY,a⟩ e cA sv aw it (o.word:Int) false w'):
 Kd A Stop m mine a2 aF aC aJ aO aH csZ ⟨x,false,1,hY,a⟩ γ cA sv aw it (o.word:Int) new w:=by
 unfold Kd;intros
 have hF:=ak.refl (al A) mine w;refine bg.mk U (λh g u d=>?_);replace hF:=ak.trans hF (dP.rw d);have iH:=(dk G).less _ _ _ u;have B:hY<=g.a6:=TX d.sees;by_cases k:g.mu.word=o.word
 .obtain⟨s,r,q⟩:=ht g.mu k;have hcell:=l5 d.mt.1;rw[k]at hcell;refine Bk G d (y:=y) (m1:=i g.mu) (f1:=f+2) (stepG_cas_hit U U Ap U func124 y0 y1 y2 .i32 y3 U U U hcell (pV d.mt.1 0 none)) r.symm U Ab q p s Ab ?_;replace hF:=ak.trans hF (vZ (A:=A) (mine:=mine) t h 0 none (.int .i32 ((i g.mu).word:Int)));clear d;refine a9 G ?_;u_c veb ak.trans hF
  refine vah (λc j=>⟨U,λn l=>?_⟩);exact z c n (by
   grind) (ak.trans hF j) ..
 .refine MM (stepG_cas_miss U U Ap U func124 y0 y1 y2 .i32 y3 U U U (l5 d.mt.1) (pV d.mt.1 0 none) AX) U Ab ?_;clear d;refine a9 G ?_;u_c veb ak.trans hF
  exact vah (λc j=>⟨U,λn l=>(v c g iH k (ak.trans hF j) ..).iv (dk G) l⟩)
end
def Bl(A:fe)(Stop:Bool->ag.Lo A.ap->aX->Prop)(m:Bool)(mine:c7)(a2:Frame)(aF:Act)(aC:du)(aJ:Nat)(aO:e8)(aH:fC)(csZ:dZ)(l:ag.Lo A.ap)(γ:ag.aN A.aK)(old:Int)(w:aL):Prop:=
 ∀(dR eX jY jB En th fS fT fU fV fW fX ri rj gp fY fZ f2 jk f_ g3 g4 g5 vF vG vH vI vJ vK vL vM vN vO vP vQ vR vS vT vU vV vW:Value),bg (al A) prog Stop m l γ ⟨Conc.G ((base 127).at ⟨#[.pointer (some (ag.fG A)),dR,eX,jY,.int .i32 old,jB,En,th,fS,fT,fU,fV,fW,fX,ri,rj,gp,fY,fZ,f2,jk,f_,g3,g4,g5,vF,vG,vH,vI,vJ,vK,vL,vM,vN,vO,vP,vQ,vR,vS,vT,vU,vV,vW],[]⟩ [.code ((dG (f127.body.getD .skip)).getD .skip),.inLoop ((dG (f127.body.getD .skip)).getD .skip),.inBlock 0]) (a2.at aF (.inRegion aC (aJ::aO)::aH)::csZ),w,mine⟩
def Eo{A:fe}{l:ag.Lo A.ap}{γ a:ag.aN A.aK}{v o:Nat}(b:l.mx=.eQ v o)(h:¬(γ.mu.jL/\γ.mu.gD=v))(c:(al A).dO l γ a):¬(a.mu.jL/\a.mu.gD=v):=by
 rcases c with rfl|⟨_,_,d⟩
 .exact h
 .exact d.2 v o b h
def PY{A:fe}{l:ag.Lo A.ap}{γ:ag.aN A.aK}(h:ij (al A) l γ):IntKind.u32.wrap ((γ.mu.sema:Int)+1)=((γ.mu.sema+1:Nat):Int):=by
 obtain⟨ls,i,hi,hg⟩:=h;have b:γ.mu.sema<=1:=by have a:γ.mu.W.toNat<=1:=vaz _;cases hS:γ.mu.S with|false=>have:=hg.l4.nm hS;omega|true=>have:=hg.l4.st hS;omega
 rw[IntKind.wrap_u32];omega
theorem arR{A:fe}{l:ag.Lo A.ap}{γ:ag.aN A.aK}{v o:Nat}(h:ij (al A) l γ)(d:l.mx=.eQ v o)(a:γ.mu.word≠o):¬(γ.mu.jL/\γ.mu.gD=v):=by obtain⟨ls,i,hi,hg⟩:=h;rintro⟨c,b⟩;exact a ((hg.l4.eQ i v o AF).2 b.symm c).symm
def PW{A:fe}(eR:A.most<=250){l:ag.Lo A.ap}{γ:ag.aN A.aK}(h:ij (al A) l γ):γ.mu.k<=250:=by obtain⟨ls,i,hi,hg⟩:=h;have b:=hg.l4.MG;have a:=hg.len;grind
def arS{m:bn}(h:m.word=n.word)(a:n.jL):m.jL:=by obtain⟨e,d,c,b⟩:=zE h;exact⟨e.trans a.1,d.trans a.2.1,c.trans a.2.2.1,by rw[b];exact a.2.2.2⟩
variable{kk:Int}{w0:aL}
section
variable{A:fe}{Stop:Bool->ag.Lo A.ap->aX->Prop}{m:Bool}{mine:c7}
variable{a2:Frame}{aF:Act}{aC:du}{aJ:Nat}{aO:e8}{aH:fC}{csZ:dZ}
def arT(G:A.Good){l:ag.Lo A.ap}{γ:ag.aN A.aK}(hk:old / 8=kk)(c:(kk==0)=true\/((kk==0)=false/\(bits .and .i32 old 7 != 0)=true))(f:∀w' d,ak (al A) mine w w'->(al A).dO l γ d->bg (al A) prog Stop m l d ⟨Conc.G (a2.at (aF.put ((aC[aJ]?).bind (·.dst)) (.tuple #[])) (.inRegion aC aO::aH)) csZ,w',mine⟩):
 Bl A Stop m mine a2 aF aC aJ aO aH csZ l γ old w:=by
 unfold Bl;intros
 have hF:=ak.refl (al A) mine w;simp only[f127,vae,dG];refine a9 G ?_;rcases c with c|⟨h0,c⟩;all_goals
  repeat w_go ak.trans
  u_leave0 func127 ak.trans hF
  exact vah (λa b=>⟨U,λg e=>f a g (ak.trans hF b) e⟩)
def arU(G:A.Good){f v n:Nat}{a:A.ap}{γ:ag.aN A.aK}(z:¬A.left a)(B:∀b,A.K b\/mine b->b≠A.st)(l:o.jL)(hok:o.k<256)(F:∀w' p,ak (al A) mine w w'->bg (al A) prog Stop m ⟨.idle,false,1,f+1,a⟩ p ⟨Conc.G (a2.at (aF.put ((aC[aJ]?).bind (·.dst)) (.tuple #[])) (.inRegion aC aO::aH)) csZ,w',mine⟩)(x:∀w' p t,(al A).dO ⟨.eQ v n,false,1,f+5,a⟩ γ t->t.mu.word≠o.word->ij (al A) ⟨.eQ v n,false,1,f+5,a⟩ t->(al A).dO ⟨.eQ v n,false,1,f+5,a⟩ t p->ak (al A) mine w w'->ij (al A) ⟨.eQ v n,false,1,f+5,a⟩ p->Bl A Stop m mine a2 aF aC aJ aO aH csZ ⟨.eQ v n,false,1,f+5,a⟩ p (p.mu.word:Int) w'):
 Bl A Stop m mine a2 aF aC aJ aO aH csZ ⟨.eQ v n,false,1,f+5,a⟩ γ (o.word:Int) w:=by
 unfold Bl;intros
 unfold Bl at x;have hF:=ak.refl (al A) mine w;have hk:=Kg o;have I:(((o.k:Nat):Int)==0)=false:=by have:=l.2.2.2;grind
 have J:(bits .and .i32 (o.word:Int) 7 != 0)=false:=by rw[Qa o hok,l.1,l.2.1,l.2.2.1];rfl
 have K:=arG o hok l.2.2.2;have L:=P_ ({o with k:=o.k-1}:bn) AF;simp only[f127,vae,dG]at x⊢;refine a9 G ?_;repeat w_go ak.trans
 refine dY U hF λd c s j q h i e hF=>?_;have iH:=(dk G).trans _ _ _ _ j i;by_cases u:h.mu.word=o.word
 .have hcell:=l5 e.mt.1;rw[u]at hcell;obtain⟨P,O,N,M⟩:=zE u;have hv:(({o with k:=o.k-1,W:=true}:bn).word:Int)=(({h.mu with k:=h.mu.k-1,W:=true}:bn).word:Int):=by grind[bn.word]
  refine Bk G e (y:=.nd) (m1:={h.mu with k:=h.mu.k-1,W:=true}) (f1:=f+2) (stepG_cas_hit U U Ap U func124 y0 y1 y2 .i32 y3 U U U hcell (pV e.mt.1 0 none)) hv U Ab U z (al9 (arS u l) Ab) Ab ?_;replace hF:=ak.trans hF (vZ (A:=A) (mine:=mine) B q 0 none (.int .i32 (({h.mu with k:=h.mu.k-1,W:=true}:bn).word:Int)));clear e i j c x;refine a9 G ?_;walk_nrm
  repeat w_go ak.trans
  refine dY U hF λd c s j g r i e hF=>?_;refine Oa G e (y:=.idle) (m1:={r.mu with sema:=r.mu.sema+1}) (f1:=f+1) (stepG_semrelease (ad:=ag.lf A) U U Ap U func148 Tj N7 Q1 Q0 (by simp[Act.eval,ag.fG,ag.lf]) (I9 e.mt.1) (pV e.mt.1 1 none)) ?_ U U z (ama Jz) Ab (.inl ?_) ?_
  .exact PY e.sees
  .exact mayWake_entry U U func148 N7
  replace hF:=ak.trans hF (vZ (A:=A) (mine:=mine) B g 1 none (.int .u32 ((r.mu.sema+1:Nat):Int)));clear e i j c;refine a9 G ?_;walk_nrm
  repeat w_go ak.trans
  u_leave0 func127 ak.trans hF
  exact vah (λd c=>⟨U,λs _=>F d s (ak.trans hF c)⟩)
 .have D:=e.sees;refine MM (stepG_cas_miss U U Ap U func124 y0 y1 y2 .i32 y3 U U U (l5 e.mt.1) (pV e.mt.1 0 none) AX) U Ab ?_;clear e i j c;refine a9 G ?_;walk_nrm
  repeat w_go ak.trans
  refine dY U hF λd c s j g r i e hF=>?_;have E:=(dk G).trans _ _ _ _ j i;have C:=e.sees;refine l6 (Bi U U Ap U U (l5 e.mt.1) aro) U U (.refl _) U U ?_;clear e i j c;refine a9 G ?_;walk_nrm
  repeat w_nl ak.trans
  u_c stepG_inLoop ak.trans hF
  exact vah (λd c=>⟨U,λs H=>(x d r h iH u D E (ak.trans hF c) C ..).iv (dk G) H⟩)
def arV(G:A.Good){f v j:Nat}{a:A.ap}(r:¬A.left a)(eR:A.most<=250)(u:∀b,A.K b\/mine b->b≠A.st)(s:∀w' c,ak (al A) mine w0 w'->bg (al A) prog Stop m ⟨.idle,false,1,f+1,a⟩ c ⟨Conc.G (a2.at (aF.put ((aC[aJ]?).bind (·.dst)) (.tuple #[])) (.inRegion aC aO::aH)) csZ,w',mine⟩)(t:∀w' c,ak (al A) mine w0 w'->¬(c.mu.jL/\c.mu.gD=v)->bg (al A) prog Stop m ⟨.eQ v j,false,1,f+5,a⟩ c ⟨Conc.G (a2.at (aF.put ((aC[aJ]?).bind (·.dst)) (.tuple #[])) (.inRegion aC aO::aH)) csZ,w',mine⟩):
 ∀(N:Nat)(γ:ag.aN A.aK)(o:bn)(w:aL),o.k<=250->(¬(γ.mu.jL/\γ.mu.gD=v)\/(o.jL/\j=o.word))->ak (al A) mine w0 w->γ.a6*2+(if o.word=γ.mu.word then 0 else 1)<N->Bl A Stop m mine a2 aF aC aJ aO aH csZ ⟨.eQ v j,false,1,f+5,a⟩ γ (o.word:Int) w:=by
 intro N;induction N with
 |zero=>grind
 |succ N q=>
  intro γ o w hk d i a4;have n:o.k<256:=AX;by_cases e:o.jL
  .refine arU G r u e n (λw' c h=>s w' c (ak.trans i h)) (λw' c l z D C g y x=>?_);have k:¬(l.mu.jL/\l.mu.gD=v):=by
    rcases d with d|⟨_,d⟩
    .exact Eo U d z
    grind[arR]
   refine q c c.mu w' (PW eR x) (.inl (Eo U k g)) (ak.trans i y) ?_;grind
  .have p:¬(γ.mu.jL/\γ.mu.gD=v):=d.resolve_right (λh=>e h.1);refine arT G (Kg o) ?_ (λw' c h g=>t w' c (ak.trans i h) (Eo U p g));by_cases B:o.k=0
   .grind
   .refine .inr ⟨AF,?_⟩;rw[Qa o n];have E:¬(o.L=false/\o.W=false/\o.S=false):=λh=>e ⟨h.1,h.2.1,h.2.2,AX⟩;grind
end
def PV(m:bn)(hk:m.k<256)(a:m.L=false):IntKind.wrap .i32 ((m.word:Int)+1)=(({m with L:=true}:bn).word:Int):=by grind[Bool.toNat_le,IntKind.wrap_i32,bn.word]
section
variable{A:fe}{Stop:Bool->ag.Lo A.ap->aX->Prop}{m:Bool}{mine:c7}
def Km{P:cf}{main:Bool}{b:Frame}{a:Act}{todo:fC}{c:Frame}{cs:dZ}{fn:Func}{K:Goroutine->aL->Array Event->Prop}(hn:b.kind=.deferred)(hd:a.defers=[])(e:P.funcs[b.fn]?=some fn)(d:fn.results=#[])(f:c.mode=.returning)(h:K (Conc.G c cs) w #[]):
 (stepG P main (Conc.G {b.at a todo with mode:=.returning} (c::cs)) w).goes K:=by
 simp_all[stepG_leave_deferred,results_none,events_results_none]
section
variable{a2:Frame}{aF:Act}{aC:du}{aJ:Nat}{aO:e8}{aH:fC}{csZ:dZ}
def arX(G:A.Good){f v g:Nat}{a:A.ap}(q:¬A.left a)(eR:A.most<=250)(x:∀b,A.K b\/mine b->b≠A.st)(j:o.L=false)(hS:o.S=false)(hk:o.k<=250)(r:∀w' c,ak (al A) mine w0 w'->bg (al A) prog Stop m ⟨.idle,false,1,f+1,a⟩ c ⟨Conc.G (a2.at (aF.put ((aC[aJ]?).bind (·.dst)) (.tuple #[])) (.inRegion aC aO::aH)) csZ,w',mine⟩)(s:∀w' c,ak (al A) mine w0 w'->¬(c.mu.jL/\c.mu.gD=v)->bg (al A) prog Stop m ⟨.eQ v g,false,1,f+5,a⟩ c ⟨Conc.G (a2.at (aF.put ((aC[aJ]?).bind (·.dst)) (.tuple #[])) (.inRegion aC aO::aH)) csZ,w',mine⟩)(w:aL)(γ:ag.aN A.aK)(t:ak (al A) mine w0 w)(n:¬(γ.mu.jL/\γ.mu.gD=v)\/(o.jL/\g=o.word)):
 bg (al A) prog Stop m ⟨.eQ v g,false,1,f+5,a⟩ γ ⟨Conc.G ((base 127).at ⟨#[.pointer (some (ag.fG A)),.int .i32 (o.word:Int),.U,.U,.U,.U,.U,.U,.U,.U,.U,.U,.U,.U,.U,.U,.U,.U,.U,.U,.U,.U,.U,.U,.U,.U,.U,.U,.U,.U,.U,.U,.U,.U,.U,.U,.U,.U,.U,.U,.U,.U,.U],[]⟩ [.code (f127.body.getD .skip)]) (a2.at aF (.inRegion aC (aJ::aO)::aH)::csZ),w,mine⟩:=by
 have hF:=t;have u:o.k<256:=AX;have i:=λ(c:ag.aN A.aK)(w':aL)(h:ak (al A) mine w0 w')(k:¬(c.mu.jL/\c.mu.gD=v)\/(o.jL/\g=o.word))=>arV G q eR x r s (c.a6*2+(if o.word=c.mu.word then 0 else 1)+1) c o w' hk k h Jz;unfold Bl at i;have C:=PV o u j;have B:bits .and .i32 (({o with L:=true}:bn).word:Int) 1=1:=by grind[TV]
 have z:bits .and .i32 (o.word:Int) 4=0:=by grind[Ke]
 simp only[f127,vae,dG]at i⊢;clear j hS;refine a9 G ?_;repeat w_but "code.loop" ak.trans
 u_c stepG_loop ak.trans hF
 exact vah (λd e=>⟨U,λy p=>i y d (ak.trans hF e) (n.imp (λh=>Eo (A:=A) (l:=⟨.eQ v g,false,1,f+5,a⟩) U h p) id) ..⟩)
def arY(G:A.Good){f:Nat}{a:A.ap}(k:¬A.left a)(q:∀b,A.K b\/mine b->b≠A.st)(j:o.L=false)(hS:o.S=true)(hk:o.k<=250)(l:∀w' r,ak (al A) mine w0 w'->bg (al A) prog Stop m ⟨.idle,false,1,f+1,a⟩ r ⟨Conc.G (a2.at (aF.put ((aC[aJ]?).bind (·.dst)) (.tuple #[])) (.inRegion aC aO::aH)) csZ,w',mine⟩)(w:aL)(γ:ag.aN A.aK)(n:ak (al A) mine w0 w):
 bg (al A) prog Stop m ⟨.ps,false,1,f+2,a⟩ γ ⟨Conc.G ((base 127).at ⟨#[.pointer (some (ag.fG A)),.int .i32 (o.word:Int),.U,.U,.U,.U,.U,.U,.U,.U,.U,.U,.U,.U,.U,.U,.U,.U,.U,.U,.U,.U,.U,.U,.U,.U,.U,.U,.U,.U,.U,.U,.U,.U,.U,.U,.U,.U,.U,.U,.U,.U,.U],[]⟩ [.code (f127.body.getD .skip)]) (a2.at aF (.inRegion aC (aJ::aO)::aH)::csZ),w,mine⟩:=by
 have hF:=n;have p:o.k<256:=AX;have x:=PV o p j;have v:bits .and .i32 (({o with L:=true}:bn).word:Int) 1=1:=by grind[TV]
 have u:bits .and .i32 (o.word:Int) 4=4:=by grind[Ke]
 simp only[f127,vae];clear j hS;refine a9 G ?_;repeat w_go ak.trans
 refine dY U hF λd c i t e h s g hF=>?_;refine Oa G g (y:=.idle) (m1:={h.mu with sema:=h.mu.sema+1}) (f1:=f+1) (stepG_semrelease (ad:=ag.lf A) U U Ap U func148 Tj N7 Q1 Q0 (by simp[Act.eval,ag.fG,ag.lf]) (I9 g.mt.1) (pV g.mt.1 1 none)) (PY g.sees) U U k (amb Jz) Ab (.inl (mayWake_entry U U func148 N7)) ?_;replace hF:=ak.trans hF (vZ (A:=A) (mine:=mine) q e 1 none (.int .u32 ((h.mu.sema+1:Nat):Int)));clear g s t c;refine a9 G ?_;walk_nrm
 repeat w_go ak.trans
 u_leave0 func127 ak.trans hF
 exact vah (λd c=>⟨U,λi _=>l d i (ak.trans hF c)⟩)
end
def Oc(G:A.Good){f F:Nat}(X:f+8<=F){a' a:A.ap}(s:¬A.left a)(J:A.past a=A.past a')(eR:A.most<=250)(B:∀b,A.K b\/mine b->b≠A.st){c:Frame}{cs:dZ}(I:c.mode=.returning)(U:(Conc.G c cs).status=.running)(Z:∀w' C,ak (al A) mine w0 w'->bg (al A) prog Stop m ⟨.idle,false,0,f,a⟩ C ⟨Conc.G c cs,w',mine⟩)(w:aL)(γ:ag.aN A.aK)(V:ak (al A) mine w0 w)(Q:∀C,(al A).dO (⟨.own,true,0,F,a'⟩:ag.Lo A.ap) γ C->∀(xs:List A.ap)(i:Nat),xs[i]?=some a'->A.tV C.aj xs->A.tV C.aj (xs.set i a)):
 bg (al A) prog Stop m ⟨.own,true,0,F,a'⟩ γ ⟨Conc.G ((baseD 89).at ⟨#[.pointer (some (ag.fG A)),.U,.U,.U,.U,.U],[]⟩ [.code (f89.body.getD .skip)]) (c::cs),w,mine⟩:=by
 have hF:=V;simp only[f89,vae];refine a9 G ?_;repeat w_go ak.trans
 u_call func113 Qr f113 ak.trans hF
 repeat w_go ak.trans
 refine dY rfl hF λn d x p k g o j hF=>?_;refine l6 (Bi rfl rfl Ap rfl rfl (l5 j.mt.1) Qm) rfl rfl (.refl _) rfl rfl ?_;have z:=(dk G).trans _ _ _ _ p o;clear j o p d;refine a9 G ?_;walk_nrm
 repeat w_go ak.trans
 refine dY rfl hF λn d D p k H o j hF=>?_;refine l6 (GQ rfl rfl Ap rfl rfl (l5 j.mt.1)) rfl rfl (.refl _) rfl rfl ?_;replace z:=(dk G).trans _ _ _ _ z ((dk G).trans _ _ _ _ p o);clear j o p d;refine a9 G ?_;walk_nrm
 repeat w_go ak.trans
 refine dY rfl hF λn d x p k g o j hF=>?_;replace z:=(dk G).trans _ _ _ _ z ((dk G).trans _ _ _ _ p o);refine amj G j (a1:=a) (f1:=f+7) (vcw .releaseMerge Ab rfl rfl Ap rfl func68 TM TN TO TP Bn) rfl s J rfl rfl X (Q _ z) ?_;clear j o p d z Q;refine a9 G ?_;walk_nrm
 repeat w_go ak.trans
 refine dY rfl hF λn d x p k g o j hF=>?_;refine sV (d1:=1) G j KB (vbu .disable Ab rfl rfl Ap rfl func69 Dg Dh Di Dj) rfl s (sU (f1:=f+6) Jz _) Ab rfl ?_;clear j o p d;refine a9 G ?_;walk_nrm
 repeat w_go ak.trans
 refine dY rfl hF λn d x p k g o j hF=>?_;have hk:g.mu.k<=250:=PW eR j.sees;have W:g.mu.k<256:=AX;have E:g.mu.L=true:=by obtain⟨ls,dQ,hi,hg⟩:=j.sees;exact hg.l4.MH (FX hi)
 have hv:=arF g.mu W E;cases hS:g.mu.S with
 |true=>
  refine Bk G j (y:=.ps) (m1:={g.mu with L:=false}) (f1:=f+2) (vda rfl rfl Ap rfl func126 J8 J9 J_ .i32 Ka rfl rfl (l5 j.mt.1) (pV j.mt.1 0 none)) hv rfl Ab rfl s (al6 hS Ab) Ab ?_;rw[hv];replace hF:=ak.trans hF (vZ (A:=A) (mine:=mine) B k 0 none (.int .i32 (({g.mu with L:=false}:bn).word:Int)));have q:((({g.mu with L:=false}:bn).word:Int) != 0)=true:=by
   have:({g.mu with L:=false}:bn).word≠0:=λe=>by have:=(TU e).2.2.1;grind
   grind
  clear hv E;generalize M:({g.mu with L:=false}:bn)=N at q hF⊢;clear j o p d;refine a9 G ?_;walk_nrm
  repeat w_go ak.trans
  u_call func127 Qj f127 ak.trans hF
  refine vah (λr v=>⟨rfl,λD _=>arY G s B AF AF AF (λt H u=>?_) r D (ak.refl _ _ _)⟩);replace hF:=ak.trans hF (ak.trans v u);clear v u q;refine a9 G ?_;walk_nrm
  repeat w_go ak.trans
  refine dY rfl hF λn d x p k g o j hF=>?_;refine sV (d1:=0) G j Kj (vbu .enable Ab rfl rfl Ap rfl func70 re rf rg rh) rfl s (sU (f1:=f) Jz _) Ab rfl ?_;clear j o p d;refine a9 G ?_;walk_nrm
  repeat w_go ak.trans
  u_leave0 func113 ak.trans hF
  repeat w_go ak.trans
  u_in ak.trans hF
  refine Km rfl rfl func89 rfl I ⟨CM,?_⟩;grind[Goes.stop,ak.trans]
 |false=>
  by_cases h0:({g.mu with L:=false}:bn).word=0
  .have R:g.mu.k=0:=(TU h0).2.2.2;refine Bk G j (y:=.idle) (m1:={g.mu with L:=false}) (f1:=f+5) (vda rfl rfl Ap rfl func126 J8 J9 J_ .i32 Ka rfl rfl (l5 j.mt.1) (pV j.mt.1 0 none)) hv rfl Ab rfl s (al7 hS R Jz) Ab ?_;rw[hv,h0];replace hF:=ak.trans hF (vZ (A:=A) (mine:=mine) B k 0 none (.int .i32 ((0:Nat):Int)));clear hv E h0 R;clear j o p d;refine a9 G ?_;walk_nrm
   repeat w_go ak.trans
   refine dY rfl hF λn d x p k g o j hF=>?_;refine sV (d1:=0) G j Kj (vbu .enable Ab rfl rfl Ap rfl func70 re rf rg rh) rfl s (sU (f1:=f) Ab _) Ab rfl ?_;clear j o p d;refine a9 G ?_;walk_nrm
   repeat w_go ak.trans
   u_leave0 func113 ak.trans hF
   repeat w_go ak.trans
   u_in ak.trans hF
   refine Km rfl rfl func89 rfl I ⟨CM,?_⟩;grind[Goes.stop,ak.trans]
  .refine Bk G j (y:=.eQ (g.mu.gD+1) ({g.mu with L:=false}:bn).word) (m1:={g.mu with L:=false,gD:=g.mu.gD+1}) (f1:=f+5) (vda rfl rfl Ap rfl func126 J8 J9 J_ .i32 Ka rfl rfl (l5 j.mt.1) (pV j.mt.1 0 none)) hv rfl Ab rfl s (al8 hS Jz) Ab ?_;rw[hv];replace hF:=ak.trans hF (vZ (A:=A) (mine:=mine) B k 0 none (.int .i32 (({g.mu with L:=false}:bn).word:Int)));have O:¬(({g.mu with L:=false,gD:=g.mu.gD+1}:bn).jL/\({g.mu with L:=false,gD:=g.mu.gD+1}:bn).gD=g.mu.gD+1)\/(({g.mu with L:=false}:bn).jL/\({g.mu with L:=false}:bn).word=({g.mu with L:=false}:bn).word):=by
    by_cases T:({g.mu with L:=false}:bn).jL
    .grind
    .exact .inl λh=>T h.1
   have q:((({g.mu with L:=false}:bn).word:Int) != 0)=true:=AF;clear hv E h0;show bg (al A) prog Stop m _ _ ⟨_,k.setCell (ag.fG A) (.int .i32 (({g.mu with L:=false}:bn).word:Int)),_⟩;generalize M:({g.mu with L:=false}:bn)=N at q hF O⊢;clear j o p d;refine a9 G ?_;walk_nrm
   repeat w_go ak.trans
   u_call func127 Qj f127 ak.trans hF
   refine vah (λr v=>⟨rfl,λD S=>arX G s eR B AF AF AF (λt H u=>?_) (λt H u K=>?_) r D (ak.refl _ _ _) (O.imp (λh=>Eo (A:=A) (l:=⟨.eQ (g.mu.gD+1) N.word,false,1,f+5,a⟩) rfl h S) id)⟩);focus
    replace hF:=ak.trans hF (ak.trans v u);clear v u q;refine a9 G ?_;walk_nrm
    repeat w_go ak.trans
    refine dY rfl hF λn d x p k g o j hF=>?_;refine sV (d1:=0) G j Kj (vbu .enable Ab rfl rfl Ap rfl func70 re rf rg rh) rfl s (sU (f1:=f) Jz _) Ab rfl ?_
   rotate_left
   focus
    replace hF:=ak.trans hF (ak.trans v u);clear v u q;refine a9 G ?_;walk_nrm
    repeat w_go ak.trans
    refine dY rfl hF λn d x p P Y o j hF=>?_;refine sV (d1:=0) G j Kj (vbu .enable Ab rfl rfl Ap rfl func70 re rf rg rh) rfl s (al_ (f1:=f) (Eo (A:=A) rfl (Eo (A:=A) (l:=⟨.eQ (g.mu.gD+1) N.word,false,1,f+5,a⟩) rfl K p) o) Ab) Ab rfl ?_
   rotate_left
   all_goals
    clear j o p d;refine a9 G ?_;walk_nrm
    repeat w_go ak.trans
    u_leave0 func113 ak.trans hF
    repeat w_go ak.trans
    u_in ak.trans hF
    refine Km rfl rfl func89 rfl I ⟨CM,?_⟩;grind[Goes.stop,ak.trans]
def T1(G:A.Good){f:Nat}{a:A.ap}(e:¬A.left a)(eR:A.most<=250)(o:∀b,A.K b\/mine b->b≠A.st){c:Frame}{cs:dZ}(g:c.mode=.returning)(d:(Conc.G c cs).status=.running)(j:∀w' p,ak (al A) mine w0 w'->bg (al A) prog Stop m ⟨.idle,false,0,f,a⟩ p ⟨Conc.G c cs,w',mine⟩)(w:aL)(γ:ag.aN A.aK)(n:ak (al A) mine w0 w):
 bg (al A) prog Stop m ⟨.own,true,0,f+8,a⟩ γ ⟨Conc.G ((baseD 89).at ⟨#[.pointer (some (ag.fG A)),.U,.U,.U,.U,.U],[]⟩ [.code (f89.body.getD .skip)]) (c::cs),w,mine⟩:=
 Oc G Jb e U eR o g d j w γ n λ_ _ xs i hi h=>by obtain⟨l,k⟩:=vab.1 hi;rw[<-k,List.set_getElem_self l];exact h
end
def rk(p:Prop):Prop:=p
theorem rk.out{p:Prop}(h:rk p):p:=h
section
variable{A:fe}{Stop:Bool->ag.Lo A.ap->aX->Prop}{m:Bool}{mine:c7}
variable{a2:Frame}{aF:Act}{aC:du}{aJ:Nat}{aO:e8}{aH:fC}{csZ:dZ}
theorem ast(G:A.Good){l:ag.Lo A.ap}{γ:ag.aN A.aK}{sv:Bool}(a4:∀w' c,(al A).dO l γ c->ak (al A) mine w w'->ux A Stop m mine a2 aF aC aJ aO aH csZ l c cA sv true it old w'):
 xp A Stop m mine a2 aF aC aJ aO aH csZ l γ cA sv true it old w:=by
 unfold xp jW;intros
 unfold ux jW at a4;have hF:=ak.refl (al A) mine w;simp only[f125,vae,dG,lr,er,GX,Nat.reduceBEq,vai,↓reduceIte]at a4⊢;refine a9 G ?_;u_c veh ak.trans hF
 u_c veh ak.trans hF
 repeat w_but "code.seq" ak.trans
 exact vah (λa b=>⟨U,λe d=>a4 a e d (ak.trans hF b) ..⟩)
theorem asu(G:A.Good){l:ag.Lo A.ap}{γ:ag.aN A.aK}{sv:Bool}(f:bits .and .i32 old 2=2)(a4:∀w' c,(al A).dO l γ c->ak (al A) mine w w'->ux A Stop m mine a2 aF aC aJ aO aH csZ l c cA sv false it old w'):
 xp A Stop m mine a2 aF aC aJ aO aH csZ l γ cA sv false it old w:=by
 unfold xp jW;intros
 unfold ux jW at a4;have hF:=ak.refl (al A) mine w;simp only[f125,vae,dG,lr,er,GX,Nat.reduceBEq,vai,↓reduceIte]at a4⊢;refine a9 G ?_;u_c veh ak.trans hF
 u_c veh ak.trans hF
 repeat w_but "code.seq" ak.trans
 exact vah (λa b=>⟨U,λe d=>a4 a e d (ak.trans hF b) ..⟩)
theorem asv(G:A.Good){l:ag.Lo A.ap}{γ:ag.aN A.aK}{sv:Bool}(f:bits .and .i32 old 2=0)(hk:old / 8=0)(a4:∀w' c,(al A).dO l γ c->ak (al A) mine w w'->ux A Stop m mine a2 aF aC aJ aO aH csZ l c cA sv false it old w'):
 xp A Stop m mine a2 aF aC aJ aO aH csZ l γ cA sv false it old w:=by
 unfold xp jW;intros
 unfold ux jW at a4;have hF:=ak.refl (al A) mine w;simp only[f125,vae,dG,lr,er,GX,Nat.reduceBEq,vai,↓reduceIte]at a4⊢;refine a9 G ?_;u_c veh ak.trans hF
 u_c veh ak.trans hF
 repeat w_but "code.seq" ak.trans
 exact vah (λa b=>⟨U,λe d=>a4 a e d (ak.trans hF b) ..⟩)
def asw(G:A.Good){f:Nat}{a:A.ap}{γ:ag.aN A.aK}{new:Int}{sv:Bool}(F:¬A.left a)(J:∀b,A.K b\/mine b->b≠A.st)(l:rk (o.L=true/\o.S=false/\o.W=false))(M:bits .and .i32 (o.word:Int) 2=0)(hk:(o.word:Int) / 8=kk)(L:(kk != 0)=true)(K:bits .or .i32 (o.word:Int) 2=new)(E:rk (new=(({o with W:=true}:bn).word:Int)))(v:∀w' j,j.a6<γ.a6->ak (al A) mine w w'->ux A Stop m mine a2 aF aC aJ aO aH csZ ⟨.jv,false,1,f+4,a⟩ j cA sv true it (o.word:Int) w')(u:∀w' j,(j=γ\/j.a6<γ.a6)->ak (al A) mine w w'->ux A Stop m mine a2 aF aC aJ aO aH csZ ⟨.mm,false,1,f+5,a⟩ j cA sv false it (o.word:Int) w'):
 xp A Stop m mine a2 aF aC aJ aO aH csZ ⟨.mm,false,1,f+5,a⟩ γ cA sv false it (o.word:Int) w:=by
 unfold xp jW;intros
 unfold ux jW at v u;have hF:=ak.refl (al A) mine w;simp only[f125,vae,dG,lr,er,GX,Nat.reduceBEq,vai,↓reduceIte]at v u⊢;refine a9 G ?_;u_c veh ak.trans hF
 u_c veh ak.trans hF
 repeat w_but "code.seq" ak.trans
 refine dY U hF λx e O t k c s i hF=>?_;have iH:=(dk G).less _ _ _ ((dk G).trans _ _ _ _ t s);have N:f+5<=c.a6:=TX i.sees;by_cases z:c.mu.word=o.word
 .obtain⟨C,I,B,H⟩:=zE z;have hcell:=l5 i.mt.1;rw[z]at hcell;have hv:new=(({c.mu with W:=true}:bn).word:Int):=by rw[rk.out E];simp only[bn.word,C,B,H]
  refine Bk G i (y:=.jv) (m1:={c.mu with W:=true}) (f1:=f+4) (stepG_cas_hit U U Ap U func124 y0 y1 y2 .i32 y3 U U U hcell (pV i.mt.1 0 none)) hv U Ab U F (al2 (C.trans l.out.1) (B.trans l.out.2.1) (I.trans l.out.2.2) Jz) Ab ?_;replace hF:=ak.trans hF (vZ (A:=A) (mine:=mine) J k 0 none (.int .i32 (({c.mu with W:=true}:bn).word:Int)));clear i s t e;refine a9 G ?_;walk_nrm
  repeat w_but "code.seq" ak.trans
  refine vah (λd p=>⟨U,λr n=>?_⟩);exact v d r (by
   have q:∀g:ag.aN A.aK,(g=({c with mu:={c.mu with W:=true},a6:=c.a6-1}:ag.aN A.aK)\/g.a6<c.a6-1)->g.a6<c.a6:=by
    rintro g (rfl|h)
    .show c.a6-1<c.a6;omega
    .omega
   have:=q r (Or.imp id (λh=>h.1) n);rcases iH with D|D
   .simp_all
   .exact Nat.lt_trans this D) (ak.trans hF p) ..
 .refine MM (stepG_cas_miss U U Ap U func124 y0 y1 y2 .i32 y3 U U U (l5 i.mt.1) (pV i.mt.1 0 none) AX) U Ab ?_;clear i s t e;refine a9 G ?_;walk_nrm
  repeat w_but "code.seq" ak.trans
  exact vah (λd p=>⟨U,λr n=>(u d c iH (ak.trans hF p) ..).iv (dk G) n⟩)
