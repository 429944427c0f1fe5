import Derived.Test.YtebcnmadaaimoaaGreatPAG
import Derived.Test.YtebcnmadaaimoaaGreatPAJ
set_option linter.all false
set_option maxRecDepth 100000
set_option maxHeartbeats 16000000
namespace Go.Proofs.YtebcnmadaaimoaaGreat
open Go.Proofs.Tryz
namespace bR
open Conc RowKit Conc.Lib ConcR.Gen ConcM az bo ag
variable{w0:aL}
section
section
variable{A:fe}{Stop:Bool->ag.Lo A.ap->aX->Prop}{m:Bool}{mine:c7}
variable{a2:Frame}{aF:Act}{aC:du}{aJ:Nat}{aO:e8}{aH:fC}{csZ:dZ}
def Og(f:Nat)(x:b6)(hY:Nat)(sv aw:Bool)(o:bn):Prop:=
 (x=.mm/\hY=f+5/\sv=false/\aw=false)\/(x=.jv/\f+3<=hY/\hY<=f+4/\aw=true/\o.W=true/\o.S=false)
def Ep(γ:ag.aN A.aK)(o:bn)(it:Int):Nat:=γ.a6*16+(if o.word=γ.mu.word then 0 else 8)+(4-it).toNat
def asy{γ a:ag.aN A.aK}{o o':bn}{it it':Int}(h:a.a6<γ.a6)(hi:0<=it'):Ep a o' it'<Ep γ o it:=by grind[Ep]
theorem Er(eR:A.most<=250){l:ag.Lo A.ap}{γ:ag.aN A.aK}(h:ij (al A) l γ):γ.mu.k<=250:=by obtain⟨ls,i,hi,hg⟩:=h;have b:=hg.l4.MG;have a:=hg.len;grind
def asz(G:A.Good){f:Nat}{a:A.ap}(n:¬A.left a)(eR:A.most<=250)(q:∀b,A.K b\/mine b->b≠A.st){γ:ag.aN A.aK}{x:b6}{hY:Nat}{s it:Int}{sv aw:Bool}{o:bn}{w:aL}(hok:Og f x hY sv aw o)(hk:o.k<=250)(Q:Behind A Stop m mine a2 aF aC aJ aO aH csZ f a w)(U:∀w' c J K,c.a6<γ.a6->ak (al A) mine w w'->ij (al A) ⟨.jv,false,1,f+3,a⟩ c->qk A Stop m mine a2 aF aC aJ aO aH csZ ⟨.jv,false,1,f+3,a⟩ c J K true 0 (c.mu.word:Int) w')(dV:∀w' c C,(C=γ\/C.a6<γ.a6)->C.mu.word≠o.word->(c=C\/c.a6<C.a6)->ak (al A) mine w w'->ij (al A) ⟨x,false,1,hY,a⟩ c->qk A Stop m mine a2 aF aC aJ aO aH csZ ⟨x,false,1,hY,a⟩ c s sv aw it (c.mu.word:Int) w'):
 Bj A Stop m mine a2 aF aC aJ aO aH csZ ⟨x,false,1,hY,a⟩ γ s sv aw it (o.word:Int) w:=by
 have r:o.k<256:=AX;have u:∀(w1:aL)(bF:ag.aN A.aK),ak (al A) mine w w1->(bF=γ\/bF.a6<γ.a6)->∀w' c,(c=bF\/c.a6<bF.a6)->c.mu.word≠o.word->ak (al A) mine w1 w'->vX A Stop m mine a2 aF aC aJ aO aH csZ ⟨x,false,1,hY,a⟩ c s sv aw it (o.word:Int) false w':=by grind[arJ,ak.trans]
 have queue:∀(w1:aL)(bF:ag.aN A.aK),ak (al A) mine w w1->(bF=γ\/bF.a6<γ.a6)->(bits .and .i32 (o.word:Int) 5==0)=false->∀w' c,c.a6<bF.a6->ak (al A) mine w1 w'->vX A Stop m mine a2 aF aC aJ aO aH csZ ⟨.kf,false,1,f+2,a⟩ c s sv aw it (o.word:Int) true w':=by
  intro w1 bF d h2 O w' c h3 H;have hb:c.a6<γ.a6:=by grind
  refine arK G O (λX Z J e R=>arP G n AX q (λz B K ic D V=>U z B J K ?_ (ak.trans d (ak.trans H (ak.trans R D))) V) (λz B D=>Q z B (ak.trans d (ak.trans H (ak.trans R D)))));grind
 have take:∀(w1:aL)(bF:ag.aN A.aK),ak (al A) mine w w1->bits .and .i32 (o.word:Int) 5=0->∀w' c,c.a6<bF.a6->ak (al A) mine w1 w'->vX A Stop m mine a2 aF aC aJ aO aH csZ ⟨.own,false,1,f+2,a⟩ c s sv aw it (o.word:Int) true w':=
  λw1 bF d O w' c _ H=>arI G O n (λz B D=>Q z B (ak.trans d (ak.trans H D)))
 have l:=Ke o r;have g:=Qb o r;have a1:=TV o r;have P:=arC o r;have ad:=arE o r;rcases hok with⟨rfl,rfl,rfl,rfl⟩|⟨rfl,jK,Y,rfl,hW,hS⟩
 .cases hS:o.S with
  |false=>
   rw[hS]at l g;cases j:o.L with
   |false=>rw[j]at g;refine GV G (.inl ⟨rfl,rfl,.inl ⟨l,g,P⟩⟩) (λw1 bF d e=>GR (y:=.own) G n q AX (λmu=>{mu with L:=true,W:=tU .mm mu.W}) (λmu h=>?_) (take w1 bF d g) (u w1 bF d ((dk G).less _ _ _ e)));obtain⟨i,F,p,E⟩:=zE h;exact⟨RL KB (i.trans j) (p.trans hS) AX,by grind[bn.word,tU],rfl⟩
   |true=>
    rw[j]at g;have I:bits .or .i32 (o.word:Int) 1=(o.word:Int):=by grind[bn.word]
    have t:(bits .and .i32 (o.word:Int) 5==0)=false:=AF;refine GV G (.inl ⟨rfl,rfl,.inr (.inl ⟨l,g,I,ad⟩)⟩) (λw1 bF d e=>GR (y:=.kf) G n q AX (λmu=>{mu with k:=mu.k+1}) (λmu h=>?_) (queue w1 bF d ((dk G).less _ _ _ e) t) (u w1 bF d ((dk G).less _ _ _ e)));obtain⟨i,F,p,E⟩:=zE h;exact⟨YX (.inl (i.trans j)) AX,Gt,rfl⟩
  |true=>
   rw[hS]at l g;have N:(bits .and .i32 (o.word:Int) 5 != 0)=true:=by grind
   have t:(bits .and .i32 (o.word:Int) 5==0)=false:=by grind
   refine GV G (.inl ⟨rfl,rfl,.inr (.inr ⟨l,N,ad⟩)⟩) (λw1 bF d e=>GR (y:=.kf) G n q AX (λmu=>{mu with k:=mu.k+1}) (λmu h=>?_) (queue w1 bF d ((dk G).less _ _ _ e) t) (u w1 bF d ((dk G).less _ _ _ e)));obtain⟨i,F,p,E⟩:=zE h;exact⟨YX (.inr (p.trans hS)) AX,Gt,rfl⟩
 .rw[hS]at l g;cases j:o.L with
  |false=>
   rw[j]at g a1;have b2:bits .and .i32 (({o with L:=true}:bn).word:Int) 2=2:=by simp_all[Kf]
   have v:=TW ({o with L:=true}:bn) r;have dN:∀w1 bF,ak (al A) mine w w1->(al A).dO ⟨.jv,false,1,hY,a⟩ γ bF->Kd A Stop m mine a2 aF aC aJ aO aH csZ ⟨.jv,false,1,hY,a⟩ bF s sv true it (o.word:Int) (({o with L:=true,W:=false}:bn).word:Int) w1:=λw1 bF d e=>by refine GR (y:=.own) G n q AX (λmu=>{mu with L:=true,W:=tU .jv mu.W}) (λmu h=>?_) (take w1 bF d g) (u w1 bF d ((dk G).less _ _ _ e));obtain⟨i,F,p,E⟩:=zE h;exact⟨RL Kj (i.trans j) (p.trans hS) AX,by grind[bn.word,tU],rfl⟩
   exact GV G (.inr ⟨rfl,_,b2,v,l,.inl ⟨g,by cases sv<;>simp_all,P⟩⟩) dN
  |true=>
   rw[j]at g a1;have I:bits .or .i32 (o.word:Int) 1=(o.word:Int):=by grind[bn.word]
   have t:(bits .and .i32 (o.word:Int) 5==0)=false:=AF;have M:({o with k:=o.k+1}:bn).k<256:=AF;cases sv with
   |false=>
    have b2:bits .and .i32 (({o with k:=o.k+1}:bn).word:Int) 2=2:=by simp_all[Kf]
    have v:=TW ({o with k:=o.k+1}:bn) M;refine GV G (.inr ⟨rfl,_,b2,v,l,.inr ⟨g,I,.inl ⟨rfl,ad⟩⟩⟩) (λw1 bF d e=>GR (y:=.kf) G n q AX (λmu=>{mu with k:=mu.k+1,W:=false,S:=false}) (λmu h=>?_) (queue w1 bF d ((dk G).less _ _ _ e) t) (u w1 bF d ((dk G).less _ _ _ e)));obtain⟨i,F,p,E⟩:=zE h;exact⟨YY false (i.trans j) AX,Gt,rfl⟩
   |true=>
    have T:({o with k:=o.k+1,S:=true}:bn).k<256:=M;have bk:=arD ({o with k:=o.k+1}:bn) M;have b2:bits .and .i32 (({o with k:=o.k+1,S:=true}:bn).word:Int) 2=2:=by simp_all[Kf]
    have v:=TW ({o with k:=o.k+1,S:=true}:bn) T;refine GV G (.inr ⟨rfl,_,b2,v,l,.inr ⟨g,I,.inr ⟨rfl,a1,_,ad,bk⟩⟩⟩) (λw1 bF d e=>GR (y:=.kf) G n q AX (λmu=>{mu with k:=mu.k+1,W:=false,S:=true}) (λmu h=>?_) (queue w1 bF d ((dk G).less _ _ _ e) t) (u w1 bF d ((dk G).less _ _ _ e)));obtain⟨i,F,p,E⟩:=zE h;exact⟨YY true (i.trans j) AX,Gt,rfl⟩
def asB(G:A.Good){f:Nat}{a:A.ap}(K:¬A.left a)(eR:A.most<=250)(Q:∀b,A.K b\/mine b->b≠A.st)(U:Behind A Stop m mine a2 aF aC aJ aO aH csZ f a w0):
 ∀(N:Nat)(γ:ag.aN A.aK)(x:b6)(hY:Nat)(p it:Int)(sv aw:Bool)(o:bn)(w:aL),Og f x hY sv aw o->o.k<=250->0<=it->ak (al A) mine w0 w->Ep γ o it<N->qk A Stop m mine a2 aF aC aJ aO aH csZ ⟨x,false,1,hY,a⟩ γ p sv aw it (o.word:Int) w:=by
 intro N;induction N with
 |zero=>grind
 |succ N E=>
  intro γ x hY p it sv aw o w hok hk D y a4;have M:o.k<256:=AX;have V:=Qb o M;have ok':∀{c:ag.aN A.aK},ij (al A) ⟨x,false,1,hY,a⟩ c->Og f x hY sv aw c.mu:=λhs=>by
   rcases hok with h|⟨i,d,j,g,_⟩
   .exact .inl h
   .have:=Ob hs i;exact .inr ⟨i,d,j,g,this.2,this.1⟩
  have lower:∀(c:ag.aN A.aK)(v:b6)(B:Nat)(t it':Int)(s z:Bool)(o':bn)(w':aL),c.a6<γ.a6->Og f v B s z o'->o'.k<=250->0<=it'->ak (al A) mine w w'->qk A Stop m mine a2 aF aC aJ aO aH csZ ⟨v,false,1,B,a⟩ c t s z it' (o'.word:Int) w':=
   λc v B t it' s z o' w' i d j g q=>E c v B t it' s z o' w' d j g (ak.trans y q) (by have:=asy (o:=o) (o':=o') (it:=it) i g;omega)
  have O:∀w1 bF,(al A).dO ⟨x,false,1,hY,a⟩ γ bF->ak (al A) mine w w1->Bj A Stop m mine a2 aF aC aJ aO aH csZ ⟨x,false,1,hY,a⟩ bF p sv aw it (o.word:Int) w1:=by
   intro w1 bF F i;have T:bF=γ\/bF.a6<γ.a6:=(dk G).less _ _ _ F;refine asz G K eR Q hok hk (λw' c h=>U w' c (ak.trans y (ak.trans i h))) (λw' c t s d j g=>?_) (λw' c R d j g q k=>?_)
   .have:=Ob g rfl;refine lower c .jv (f+3) t 0 s true c.mu w' ?_ (.inr ⟨rfl,vac _,vdw _,rfl,this.2,this.1⟩) (Er eR g) (Int.le_refl _) (ak.trans i j);grind
   .
    by_cases u:c.a6<γ.a6
    .grind[Er,ak.trans]
    .have e1:bF=γ:=by grind
     have Z:R=γ:=by grind
     have H:c=γ:=by grind
     subst H;refine E c x hY p it sv aw c.mu w' (ok' k) (Er eR k) D (ak.trans y (ak.trans i q)) ?_;have S:o.word≠c.mu.word:=λe=>j AF;unfold Ep at a4⊢;grind
  cases I:(o.L&& !o.S)with
  |false=>refine asr G ?_ O;rw[V];cases J:o.L<;>cases hS:o.S<;>simp[J,hS]at I⊢
  |true=>
   have J:o.L=true:=by grind
   have hS:o.S=false:=by grind
   refine ass G AF O (λg w1 bF F i=>?_);have T:bF=γ\/bF.a6<γ.a6:=(dk G).less _ _ _ F;have again:∀(r:aL)(n:ag.aN A.aK),ak (al A) mine w1 r->(n=bF\/n.a6<bF.a6)->ux A Stop m mine a2 aF aC aJ aO aH csZ ⟨x,false,1,hY,a⟩ n p sv aw it (o.word:Int) r:=by
    intro r n d P;refine Rk G D g (λC l j q k=>?_);by_cases u:l.a6<γ.a6
    .grind[Er,ak.trans]
    .have H:l=γ:=by grind
     subst H;refine E l x hY p (it+1) sv aw l.mu C (ok' k) (Er eR k) AX (ak.trans y (ak.trans i (ak.trans d q))) ?_;unfold Ep at a4⊢;grind
   rcases hok with⟨rfl,rfl,rfl,rfl⟩|⟨rfl,Y,W,rfl,L,_⟩
   .cases L:o.W with
    |true=>grind[asu,Kf]
    |false=>
     have d:bits .and .i32 (o.word:Int) 2=0:=by grind[Kf]
     by_cases X:o.k=0
     .grind[asv,Kg]
     .refine asw G K Q (show rk _ from⟨J,hS,L⟩) d (Kg o) AF (P_ o M) (show rk (_=_)from rfl) (λr n u d=>?_) (λr n P d=>again r n d P);refine Rk G D g (λC l j q k=>?_);have:=Ob k rfl;refine lower l .jv (f+4) p (it+1) false true l.mu C ?_ (.inr ⟨rfl,vdw _,vac _,rfl,this.2,this.1⟩) (Er eR k) AX (ak.trans i (ak.trans d q));grind
   grind[ast]
end
end
section
section
variable{A:fe}{Stop:Bool->ag.Lo A.ap->aX->Prop}{m:Bool}{mine:c7}
variable{a2:Frame}{aF:Act}{aC:du}{aJ:Nat}{aO:e8}{aH:fC}{csZ:dZ}
def asD(G:A.Good){f:Nat}{a:A.ap}(n:¬A.left a)(eR:A.most<=250)(q:∀b,A.K b\/mine b->b≠A.st)(o:Behind A Stop m mine a2 aF aC aJ aO aH csZ f a w0)(w:aL)(γ:ag.aN A.aK)(p:ak (al A) mine w0 w):
 bg (al A) prog Stop m ⟨.mm,false,1,f+5,a⟩ γ ⟨Conc.G ((base 125).at ⟨#[.pointer (some (ag.fG A)),.U,.U,.U,.U,.U,.U,.U,.U,.U,.U,.U,.U,.U,.U,.U,.U,.U,.U,.U,.U,.U,.U,.U,.U,.U,.U,.U,.U,.U,.U,.U,.U,.U,.U,.U,.U,.U,.U,.U,.U,.U,.U,.U,.U,.U,.U,.U,.U,.U,.U,.U,.U,.U,.U,.U,.U,.U,.U,.U,.U,.U,.U,.U,.U,.U,.U,.U,.U,.U,.U,.U,.U,.U,.U,.U,.U,.U,.U,.U,.U,.U,.U,.U,.U,.U,.U,.U,.U,.U,.U,.U,.U,.U,.U,.U,.U,.U,.U,.U,.U,.U,.U,.U,.U,.U,.U,.U,.U,.U,.U,.U,.U,.U,.U,.U,.U,.U,.U,.U,.U,.U,.U,.U,.U,.U,.U,.U,.U,.U,.U,.U,.U,.U,.U,.U,.U,.U,.U],[]⟩ [.code (f125.body.getD .skip)]) (a2.at aF (.inRegion aC (aJ::aO)::aH)::csZ),w,mine⟩:=by
 have hF:=p;have i:=λ(e:ag.aN A.aK)(w':aL)(h:ak (al A) mine w0 w')(hs:ij (al A) ⟨.mm,false,1,f+5,a⟩ e)=>asB G n eR q o (Ep e e.mu 0+1) e .mm (f+5) 0 0 false false e.mu w' (.inl ⟨U,U,U,U⟩) (Er eR hs) (Int.le_refl _) h Jz;unfold qk jW at i;simp only[f125,vae,dG,lr]at i⊢;refine a9 G ?_;repeat w_go ak.trans
 refine dY U hF λd c s u j r t g hF=>?_;have k:=g.sees;refine l6 (Bi U U Ap U U (l5 g.mt.1) Kb) U U (.refl _) U U ?_;clear g t u c;refine a9 G ?_;walk_nrm
 repeat w_but "code.loop" ak.trans
 u_c stepG_loop ak.trans hF
 exact vah (λd c=>⟨U,λs l=>(i r d (ak.trans hF c) k ..).iv (dk G) l⟩)
def Uc(G:A.Good){f:Nat}{a:A.ap}(n:¬A.left a)(eR:A.most<=250)(u:∀b,A.K b\/mine b->b≠A.st)(v:Behind A Stop m mine a2 aF aC aJ aO aH csZ f a w0)(w:aL)(γ:ag.aN A.aK)(x:ak (al A) mine w0 w):
 bg (al A) prog Stop m ⟨.idle,false,0,f+6,a⟩ γ ⟨Conc.G ((base 88).at ⟨#[.pointer (some (ag.fG A)),.U,.U,.U,.U,.U],[]⟩ [.code (f88.body.getD .skip)]) (a2.at aF (.inRegion aC (aJ::aO)::aH)::csZ),w,mine⟩:=by
 have hF:=x;simp only[f88,vae];refine a9 G ?_;repeat w_go ak.trans
 u_call func112 Qs f112 ak.trans hF
 repeat w_go ak.trans
 refine dY U hF λd c k j g h i e hF=>?_;refine sV (d1:=1) G e KB (vbu .disable Ab U U Ap U func69 Dg Dh Di Dj) U n (al1 (f1:=f+5) Jz) Ab U ?_;clear e i j c;refine a9 G ?_;walk_nrm
 repeat w_go ak.trans
 refine dY U hF λd c k j g h i e hF=>?_;by_cases o:h.mu.word=0;focus
  have hcell:=l5 e.mt.1;rw[o]at hcell;obtain⟨t,C,s,B⟩:=TU o;have hv:(1:Int)=(({h.mu with L:=true,W:=tU .mm h.mu.W}:bn).word:Int):=by grind[bn.word,tU]
  refine Bk G e (y:=.own) (m1:={h.mu with L:=true,W:=tU .mm h.mu.W}) (f1:=f+2) (stepG_cas_hit U U Ap U func124 y0 y1 y2 .i32 y3 U U U hcell (pV e.mt.1 0 none)) hv U Ab U n (RL KB t s Ab) Ab ?_;replace hF:=ak.trans hF (vZ (A:=A) (mine:=mine) u g 0 none (.int .i32 (({h.mu with L:=true,W:=tU .mm h.mu.W}:bn).word:Int)));clear t C s B hv hcell o;clear e i j c;refine a9 G ?_;walk_nrm
  repeat w_go ak.trans
  refine dY U hF λd c k j g h i e hF=>?_;refine sV G e Kj (vbu .enable Ab U U Ap U func70 re rf rg rh) U n (sU (f1:=f+1) Jz _) Ab U ?_;clear e i j c;refine a9 G ?_;walk_nrm
  repeat w_go ak.trans
  refine dY U hF λd c k j g h i e hF=>?_;refine l6 (GQ U U Ap U U (l5 e.mt.1)) U U (.refl _) U U ?_;clear e i j c;refine a9 G ?_;walk_nrm
  repeat w_go ak.trans
  refine dY U hF λd c k j g h i e hF=>?_;refine RS G e (f1:=f) (vcw .acquire Ab U U Ap U func83 GL GM GN GO Bn) U n U U U Jz ?_;clear e i j c
 rotate_left
 focus
  refine MM (stepG_cas_miss U U Ap U func124 y0 y1 y2 .i32 y3 U U U (l5 e.mt.1) (pV e.mt.1 0 none) AX) U Ab ?_;clear o;clear e i j c;refine a9 G ?_;walk_nrm
  repeat w_go ak.trans
  u_call func125 arn f125 ak.trans hF
  refine vah (λl q=>⟨U,λz _=>asD G n eR u (λp D r=>?_) l z (ak.refl _ _ _)⟩);replace hF:=ak.trans hF (ak.trans q r);clear q r
 rotate_left
 all_goals
  refine a9 G ?_;walk_nrm
  repeat w_go ak.trans
  u_leave0 func112 ak.trans hF
  repeat w_go ak.trans
  u_leave0 func88 ak.trans hF
  exact vah (λd c=>⟨U,λk _=>v d k (ak.trans hF c)⟩)
