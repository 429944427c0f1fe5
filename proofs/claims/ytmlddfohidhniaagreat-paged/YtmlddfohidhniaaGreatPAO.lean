import Derived.Test.YtmlddfohidhniaaGreatPAH
import Derived.Test.YtmlddfohidhniaaGreatPAJ
set_option linter.all false
set_option maxRecDepth 100000
set_option maxHeartbeats 16000000
namespace Go.Proofs.YtmlddfohidhniaaGreat
open Go.Proofs.Tryz
namespace bM
open Conc RowKit Conc.Lib ConcR.Gen ConcM ax bp ag
variable{w0:aS}
section
section
variable{A:e_}{Stop:Bool->ag.Lo A.ao->aV->Prop}{m:Bool}{mine:dh}
variable{a4:Frame}{aF:Act}{aC:eY}{aK:Nat}{aM:uaa}{aH:il}{csZ:fV}
def NS(f:Nat)(x:bU)(gU:Nat)(sv aw:Bool)(o:bk):Prop:=
 (x=.l5/\gU=f+5/\sv=false/\aw=false)\/(x=.jc/\f+3<=gU/\gU<=f+4/\aw=true/\o.W=true/\o.S=false)
def DL(γ:ag.aO A.aI)(o:bk)(it:Int):Nat:=γ.a_*16+(if o.word=γ.mu.word then 0 else 8)+(4-it).toNat
def arq{γ a:ag.aO A.aI}{o o':bk}{it it':Int}(h:a.a_<γ.a_)(hi:0<=it'):DL a o' it'<DL γ o it:=by grind[DL]
theorem DN(eK:A.most<=1000000){l:ag.Lo A.ao}{γ:ag.aO A.aI}(h:hh (am A) l γ):γ.mu.k<=1000000:=by obtain⟨ls,i,hi,hg⟩:=h;have b:=hg.lF.Me;have a:=hg.len;grind
def ars(G:A.Good){f:Nat}{a:A.ao}(n:¬A.left a)(eK:A.most<=1000000)(q:∀b,A.K b\/mine b->b≠A.st){γ:ag.aO A.aI}{x:bU}{gU:Nat}{s it:Int}{sv aw:Bool}{o:bk}{w:aS}(hok:NS f x gU sv aw o)(hk:o.k<=1000000)(R:Behind A Stop m mine a4 aF aC aK aM aH csZ f a w)(V:∀w' c K M,c.a_<γ.a_->ah (am A) mine w w'->hh (am A) ⟨.jc,false,1,f+3,a⟩ c->pU A Stop m mine a4 aF aC aK aM aH csZ ⟨.jc,false,1,f+3,a⟩ c K M true 0 (c.mu.word:Int) w')(dI:∀w' c C,(C=γ\/C.a_<γ.a_)->C.mu.word≠o.word->(c=C\/c.a_<C.a_)->ah (am A) mine w w'->hh (am A) ⟨x,false,1,gU,a⟩ c->pU A Stop m mine a4 aF aC aK aM aH csZ ⟨x,false,1,gU,a⟩ c s sv aw it (c.mu.word:Int) w'):
 As A Stop m mine a4 aF aC aK aM aH csZ ⟨x,false,1,gU,a⟩ γ s sv aw it (o.word:Int) w:=by
 have r:o.k<1048576:=AP;have u:∀(w1:aS)(bA:ag.aO A.aI),ah (am A) mine w w1->(bA=γ\/bA.a_<γ.a_)->∀w' c,(c=bA\/c.a_<bA.a_)->c.mu.word≠o.word->ah (am A) mine w1 w'->vx A Stop m mine a4 aF aC aK aM aH csZ ⟨x,false,1,gU,a⟩ c s sv aw it (o.word:Int) false w':=by grind[aqB,ah.trans]
 have queue:∀(w1:aS)(bA:ag.aO A.aI),ah (am A) mine w w1->(bA=γ\/bA.a_<γ.a_)->(bits .and .i32 (o.word:Int) 5==0)=false->∀w' c,c.a_<bA.a_->ah (am A) mine w1 w'->vx A Stop m mine a4 aF aC aK aM aH csZ ⟨.jX,false,1,f+2,a⟩ c s sv aw it (o.word:Int) true w':=by
  intro w1 bA d h2 P w' c h3 I;have hb:c.a_<γ.a_:=by grind
  refine aqC G P (λY sq K e T=>aqH G n AP q (λv B M g5 D X=>V v B K M ?_ (ah.trans d (ah.trans I (ah.trans T D))) X) (λv B D=>R v B (ah.trans d (ah.trans I (ah.trans T D)))));grind
 have take:∀(w1:aS)(bA:ag.aO A.aI),ah (am A) mine w w1->bits .and .i32 (o.word:Int) 5=0->∀w' c,c.a_<bA.a_->ah (am A) mine w1 w'->vx A Stop m mine a4 aF aC aK aM aH csZ ⟨.own,false,1,f+2,a⟩ c s sv aw it (o.word:Int) true w':=
  λw1 bA d P w' c _ I=>aqA G P n (λv B D=>R v B (ah.trans d (ah.trans I D)))
 have l:=JO o r;have g:=RJ o r;have a1:=TF o r;have Q:=aqu o r;have ad:=aqw o r;rcases hok with⟨rfl,rfl,rfl,rfl⟩|⟨rfl,iN,Z,rfl,hW,hS⟩
 .cases hS:o.S with
  |false=>
   rw[hS]at l g;cases j:o.L with
   |false=>rw[j]at g;refine Gj G (.inl ⟨rfl,rfl,.inl ⟨l,g,Q⟩⟩) (λw1 bA d e=>Gh (y:=.own) G n q AP (λmu=>{mu with L:=true,W:=tz .l5 mu.W}) (λmu h=>?_) (take w1 bA d g) (u w1 bA d ((da G).less _ _ _ e)));obtain⟨i,F,p,E⟩:=y5 h;exact⟨RA J1 (i.trans j) (p.trans hS) AP,by grind[bk.word,tz],rfl⟩
   |true=>
    rw[j]at g;have J:bits .or .i32 (o.word:Int) 1=(o.word:Int):=by grind[bk.word]
    have t:(bits .and .i32 (o.word:Int) 5==0)=false:=AA;refine Gj G (.inl ⟨rfl,rfl,.inr (.inl ⟨l,g,J,ad⟩)⟩) (λw1 bA d e=>Gh (y:=.jX) G n q AP (λmu=>{mu with k:=mu.k+1}) (λmu h=>?_) (queue w1 bA d ((da G).less _ _ _ e) t) (u w1 bA d ((da G).less _ _ _ e)));obtain⟨i,F,p,E⟩:=y5 h;exact⟨Yp (.inl (i.trans j)) AP,Gi,rfl⟩
  |true=>
   rw[hS]at l g;have O:(bits .and .i32 (o.word:Int) 5 != 0)=true:=by grind
   have t:(bits .and .i32 (o.word:Int) 5==0)=false:=by grind
   refine Gj G (.inl ⟨rfl,rfl,.inr (.inr ⟨l,O,ad⟩)⟩) (λw1 bA d e=>Gh (y:=.jX) G n q AP (λmu=>{mu with k:=mu.k+1}) (λmu h=>?_) (queue w1 bA d ((da G).less _ _ _ e) t) (u w1 bA d ((da G).less _ _ _ e)));obtain⟨i,F,p,E⟩:=y5 h;exact⟨Yp (.inr (p.trans hS)) AP,Gi,rfl⟩
 .rw[hS]at l g;cases j:o.L with
  |false=>
   rw[j]at g a1;have H:bits .and .i32 (({o with L:=true}:bk).word:Int) 2=2:=by simp_all[JP]
   have z:=TG ({o with L:=true}:bk) r;have dK:∀w1 bA,ah (am A) mine w w1->(am A).dZ ⟨.jc,false,1,gU,a⟩ γ bA->JN A Stop m mine a4 aF aC aK aM aH csZ ⟨.jc,false,1,gU,a⟩ bA s sv true it (o.word:Int) (({o with L:=true,W:=false}:bk).word:Int) w1:=λw1 bA d e=>by refine Gh (y:=.own) G n q AP (λmu=>{mu with L:=true,W:=tz .jc mu.W}) (λmu h=>?_) (take w1 bA d g) (u w1 bA d ((da G).less _ _ _ e));obtain⟨i,F,p,E⟩:=y5 h;exact⟨RA KK (i.trans j) (p.trans hS) AP,by grind[bk.word,tz],rfl⟩
   exact Gj G (.inr ⟨rfl,_,H,z,l,.inl ⟨g,by cases sv<;>simp_all,Q⟩⟩) dK
  |true=>
   rw[j]at g a1;have J:bits .or .i32 (o.word:Int) 1=(o.word:Int):=by grind[bk.word]
   have t:(bits .and .i32 (o.word:Int) 5==0)=false:=AA;have N:({o with k:=o.k+1}:bk).k<1048576:=AA;cases sv with
   |false=>
    have H:bits .and .i32 (({o with k:=o.k+1}:bk).word:Int) 2=2:=by simp_all[JP]
    have z:=TG ({o with k:=o.k+1}:bk) N;refine Gj G (.inr ⟨rfl,_,H,z,l,.inr ⟨g,J,.inl ⟨rfl,ad⟩⟩⟩) (λw1 bA d e=>Gh (y:=.jX) G n q AP (λmu=>{mu with k:=mu.k+1,W:=false,S:=false}) (λmu h=>?_) (queue w1 bA d ((da G).less _ _ _ e) t) (u w1 bA d ((da G).less _ _ _ e)));obtain⟨i,F,p,E⟩:=y5 h;exact⟨Yq false (i.trans j) AP,Gi,rfl⟩
   |true=>
    have U:({o with k:=o.k+1,S:=true}:bk).k<1048576:=N;have a8:=aqv ({o with k:=o.k+1}:bk) N;have H:bits .and .i32 (({o with k:=o.k+1,S:=true}:bk).word:Int) 2=2:=by simp_all[JP]
    have z:=TG ({o with k:=o.k+1,S:=true}:bk) U;refine Gj G (.inr ⟨rfl,_,H,z,l,.inr ⟨g,J,.inr ⟨rfl,a1,_,ad,a8⟩⟩⟩) (λw1 bA d e=>Gh (y:=.jX) G n q AP (λmu=>{mu with k:=mu.k+1,W:=false,S:=true}) (λmu h=>?_) (queue w1 bA d ((da G).less _ _ _ e) t) (u w1 bA d ((da G).less _ _ _ e)));obtain⟨i,F,p,E⟩:=y5 h;exact⟨Yq true (i.trans j) AP,Gi,rfl⟩
def aru(G:A.Good){f:Nat}{a:A.ao}(K:¬A.left a)(eK:A.most<=1000000)(Q:∀b,A.K b\/mine b->b≠A.st)(U:Behind A Stop m mine a4 aF aC aK aM aH csZ f a w0):
 ∀(N:Nat)(γ:ag.aO A.aI)(x:bU)(gU:Nat)(p it:Int)(sv aw:Bool)(o:bk)(w:aS),NS f x gU sv aw o->o.k<=1000000->0<=it->ah (am A) mine w0 w->DL γ o it<N->pU A Stop m mine a4 aF aC aK aM aH csZ ⟨x,false,1,gU,a⟩ γ p sv aw it (o.word:Int) w:=by
 intro N;induction N with
 |zero=>grind
 |succ N E=>
  intro γ x gU p it sv aw o w hok hk D y a7;have M:o.k<1048576:=AP;have V:=RJ o M;have ok':∀{c:ag.aO A.aI},hh (am A) ⟨x,false,1,gU,a⟩ c->NS f x gU sv aw c.mu:=λhs=>by
   rcases hok with h|⟨i,d,j,g,_⟩
   .exact .inl h
   .have:=NO hs i;exact .inr ⟨i,d,j,g,this.2,this.1⟩
  have lower:∀(c:ag.aO A.aI)(v:bU)(B:Nat)(t it':Int)(s z:Bool)(o':bk)(w':aS),c.a_<γ.a_->NS f v B s z o'->o'.k<=1000000->0<=it'->ah (am A) mine w w'->pU A Stop m mine a4 aF aC aK aM aH csZ ⟨v,false,1,B,a⟩ c t s z it' (o'.word:Int) w':=
   λc v B t it' s z o' w' i d j g q=>E c v B t it' s z o' w' d j g (ah.trans y q) (by have:=arq (o:=o) (o':=o') (it:=it) i g;omega)
  have O:∀w1 bA,(am A).dZ ⟨x,false,1,gU,a⟩ γ bA->ah (am A) mine w w1->As A Stop m mine a4 aF aC aK aM aH csZ ⟨x,false,1,gU,a⟩ bA p sv aw it (o.word:Int) w1:=by
   intro w1 bA F i;have T:bA=γ\/bA.a_<γ.a_:=(da G).less _ _ _ F;refine ars G K eK Q hok hk (λw' c h=>U w' c (ah.trans y (ah.trans i h))) (λw' c t s d j g=>?_) (λw' c R d j g q k=>?_)
   .have:=NO g rfl;refine lower c .jc (f+3) t 0 s true c.mu w' ?_ (.inr ⟨rfl,vac _,vdu _,rfl,this.2,this.1⟩) (DN eK g) (Int.le_refl _) (ah.trans i j);grind
   .
    by_cases u:c.a_<γ.a_
    .grind[DN,ah.trans]
    .have e1:bA=γ:=by grind
     have Z:R=γ:=by grind
     have H:c=γ:=by grind
     subst H;refine E c x gU p it sv aw c.mu w' (ok' k) (DN eK k) D (ah.trans y (ah.trans i q)) ?_;have S:o.word≠c.mu.word:=λe=>j AA;unfold DL at a7⊢;grind
  cases I:(o.L&& !o.S)with
  |false=>refine arj G ?_ O;rw[V];cases J:o.L<;>cases hS:o.S<;>simp[J,hS]at I⊢
  |true=>
   have J:o.L=true:=by grind
   have hS:o.S=false:=by grind
   refine ark G AA O (λg w1 bA F i=>?_);have T:bA=γ\/bA.a_<γ.a_:=(da G).less _ _ _ F;have again:∀(r:aS)(l:ag.aO A.aI),ah (am A) mine w1 r->(l=bA\/l.a_<bA.a_)->t6 A Stop m mine a4 aF aC aK aM aH csZ ⟨x,false,1,gU,a⟩ l p sv aw it (o.word:Int) r:=by
    intro r l d P;refine R3 G D g (λC n j q k=>?_);by_cases u:n.a_<γ.a_
    .grind[DN,ah.trans]
    .have H:n=γ:=by grind
     subst H;refine E n x gU p (it+1) sv aw n.mu C (ok' k) (DN eK k) AP (ah.trans y (ah.trans i (ah.trans d q))) ?_;unfold DL at a7⊢;grind
   rcases hok with⟨rfl,rfl,rfl,rfl⟩|⟨rfl,Y,W,rfl,L,_⟩
   .cases L:o.W with
    |true=>grind[arm,JP]
    |false=>
     have d:bits .and .i32 (o.word:Int) 2=0:=by grind[JP]
     by_cases X:o.k=0
     .grind[arn,JQ]
     .refine aro G K Q (show qE _ from⟨J,hS,L⟩) d (JQ o) AA (Ru o M) (show qE (_=_)from rfl) (λr l u d=>?_) (λr l P d=>again r l d P);refine R3 G D g (λC n j q k=>?_);have:=NO k rfl;refine lower n .jc (f+4) p (it+1) false true n.mu C ?_ (.inr ⟨rfl,vdu _,vac _,rfl,this.2,this.1⟩) (DN eK k) AP (ah.trans i (ah.trans d q));grind
   grind[arl]
end
end
section
section
variable{A:e_}{Stop:Bool->ag.Lo A.ao->aV->Prop}{m:Bool}{mine:dh}
variable{a4:Frame}{aF:Act}{aC:eY}{aK:Nat}{aM:uaa}{aH:il}{csZ:fV}
def arw(G:A.Good){f:Nat}{a:A.ao}(n:¬A.left a)(eK:A.most<=1000000)(q:∀b,A.K b\/mine b->b≠A.st)(o:Behind A Stop m mine a4 aF aC aK aM aH csZ f a w0)(w:aS)(γ:ag.aO A.aI)(p:ah (am A) mine w0 w):
 bg (am A) prog Stop m ⟨.l5,false,1,f+5,a⟩ γ ⟨Conc.G ((base 127).at ⟨#[.pointer (some (ag.fy A)),.U,.U,.U,.U,.U,.U,.U,.U,.U,.U,.U,.U,.U,.U,.U,.U,.U,.U,.U,.U,.U,.U,.U,.U,.U,.U,.U,.U,.U,.U,.U,.U,.U,.U,.U,.U,.U,.U,.U,.U,.U,.U,.U,.U,.U,.U,.U,.U,.U,.U,.U,.U,.U,.U,.U,.U,.U,.U,.U,.U,.U,.U,.U,.U,.U,.U,.U,.U,.U,.U,.U,.U,.U,.U,.U,.U,.U,.U,.U,.U,.U,.U,.U,.U,.U,.U,.U,.U,.U,.U,.U,.U,.U,.U,.U,.U,.U,.U,.U,.U,.U,.U,.U,.U,.U,.U,.U,.U,.U,.U,.U,.U,.U,.U,.U,.U,.U,.U,.U,.U,.U,.U,.U,.U,.U,.U,.U,.U,.U,.U,.U,.U,.U,.U,.U,.U,.U,.U],[]⟩ [.code (f127.body.getD .skip)]) (a4.at aF (.inRegion aC (aK::aM)::aH)::csZ),w,mine⟩:=by
 have hF:=p;have i:=λ(e:ag.aO A.aI)(w':aS)(h:ah (am A) mine w0 w')(hs:hh (am A) ⟨.l5,false,1,f+5,a⟩ e)=>aru G n eK q o (DL e e.mu 0+1) e .l5 (f+5) 0 0 false false e.mu w' (.inl ⟨Y,Y,Y,Y⟩) (DN eK hs) (Int.le_refl _) h Jo;unfold pU jM at i;simp only[f127,vae,dA,kZ]at i⊢;refine bl G ?_;repeat w_go ah.trans
 refine dL Y hF λd c s u j r t g hF=>?_;have k:=g.sees;refine lH (Ar Y Y Am Y Y (lG g.mt.1) JL) Y Y (.refl _) Y Y ?_;clear g t u c;refine bl G ?_;walk_nrm
 repeat w_but "code.loop" ah.trans
 u_c stepG_loop ah.trans hF
 exact vai (λd c=>⟨Y,λs l=>(i r d (ah.trans hF c) k ..).hV (da G) l⟩)
def RR(G:A.Good){f:Nat}{a:A.ao}(n:¬A.left a)(eK:A.most<=1000000)(u:∀b,A.K b\/mine b->b≠A.st)(v:Behind A Stop m mine a4 aF aC aK aM aH csZ f a w0)(w:aS)(γ:ag.aO A.aI)(x:ah (am A) mine w0 w):
 bg (am A) prog Stop m ⟨.idle,false,0,f+6,a⟩ γ ⟨Conc.G ((base 90).at ⟨#[.pointer (some (ag.fy A)),.U,.U,.U,.U,.U],[]⟩ [.code (f90.body.getD .skip)]) (a4.at aF (.inRegion aC (aK::aM)::aH)::csZ),w,mine⟩:=by
 have hF:=x;simp only[f90,vae];refine bl G ?_;repeat w_go ah.trans
 u_call func114 NZ f114 ah.trans hF
 repeat w_go ah.trans
 refine dL Y hF λd c k j g h i e hF=>?_;refine sk (d1:=1) G e J1 (vbx .disable Ad Y Y Am Y func71 CE CF CG CH) Y n (akJ (f1:=f+5) Jo) Ad Y ?_;clear e i j c;refine bl G ?_;walk_nrm
 repeat w_go ah.trans
 refine dL Y hF λd c k j g h i e hF=>?_;by_cases o:h.mu.word=0;focus
  have hcell:=lG e.mt.1;rw[o]at hcell;obtain⟨t,C,s,B⟩:=TC o;have hv:(1:Int)=(({h.mu with L:=true,W:=tz .l5 h.mu.W}:bk).word:Int):=by grind[bk.word,tz]
  refine Au G e (y:=.own) (m1:={h.mu with L:=true,W:=tz .l5 h.mu.W}) (f1:=f+2) (stepG_cas_hit Y Y Am Y func126 yp yq yr .i32 yt Y Y Y hcell (pG e.mt.1 0 none)) hv Y Ad Y n (RA J1 t s Ad) Ad ?_;replace hF:=ah.trans hF (vz (A:=A) (mine:=mine) u g 0 none (.int .i32 (({h.mu with L:=true,W:=tz .l5 h.mu.W}:bk).word:Int)));clear t C s B hv hcell o;clear e i j c;refine bl G ?_;walk_nrm
  repeat w_go ah.trans
  refine dL Y hF λd c k j g h i e hF=>?_;refine sk G e KK (vbx .enable Ad Y Y Am Y func72 qy qz qA qB) Y n (sj (f1:=f+1) Jo _) Ad Y ?_;clear e i j c;refine bl G ?_;walk_nrm
  repeat w_go ah.trans
  refine dL Y hF λd c k j g h i e hF=>?_;refine lH (Ge Y Y Am Y Y (lG e.mt.1)) Y Y (.refl _) Y Y ?_;clear e i j c;refine bl G ?_;walk_nrm
  repeat w_go ah.trans
  refine dL Y hF λd c k j g h i e hF=>?_;refine RG G e (f1:=f) (vcu .acquire Ad Y Y Am Y func85 Ga Gb Gc Gd Bz) Y n Y Y Y Jo ?_;clear e i j c
 rotate_left
 focus
  refine Mk (stepG_cas_miss Y Y Am Y func126 yp yq yr .i32 yt Y Y Y (lG e.mt.1) (pG e.mt.1 0 none) AP) Y Ad ?_;clear o;clear e i j c;refine bl G ?_;walk_nrm
  repeat w_go ah.trans
  u_call func127 aqe f127 ah.trans hF
  refine vai (λl q=>⟨Y,λz _=>arw G n eK u (λp D r=>?_) l z (ah.refl _ _ _)⟩);replace hF:=ah.trans hF (ah.trans q r);clear q r
 rotate_left
 all_goals
  refine bl G ?_;walk_nrm
  repeat w_go ah.trans
  u_leave0 func114 ah.trans hF
  repeat w_go ah.trans
  u_leave0 func90 ah.trans hF
  exact vai (λd c=>⟨Y,λk _=>v d k (ah.trans hF c)⟩)
