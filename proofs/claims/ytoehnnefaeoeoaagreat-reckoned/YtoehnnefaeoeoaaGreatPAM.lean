import Derived.Test.YtoehnnefaeoeoaaGreatPAG
import Derived.Test.YtoehnnefaeoeoaaGreatPAH
import Derived.Test.YtoehnnefaeoeoaaGreatPAI
import Derived.Test.YtoehnnefaeoeoaaGreatPAJ
set_option linter.all false
set_option maxRecDepth 100000
set_option maxHeartbeats 16000000
namespace Go.Proofs.YtoehnnefaeoeoaaGreat
open Go.Proofs.Tryz
namespace ba
open Conc RowKit Conc.Lib ConcR.Gen ConcM az bu ab
def tx(p:Prop):Prop:=p
theorem tx.out{p:Prop}(h:tx p):p:=h
variable {bX it old:Int}{w:World}
section
variable {A:e_} {Stop:Bool->ab.av A.ar->a6->Prop} {m:Bool} {mine:Nat->Prop}
variable {b₁:Frame} {a₁:Act} {aG:Array Oper} {i₁:Nat} {aP:List Nat} {k₁:List Item} {cs₁:List Frame}
theorem ap4(G:A.Good){l:ab.av A.ar}{γ:ab.aT A.aQ}{sv:Bool}
 (cj:∀w' a,(ah A).dN l γ a->U (ah A) mine w w'->wF A Stop m mine b₁ a₁ aG i₁ aP k₁ cs₁ l a bX sv true it old w'):
 yS A Stop m mine b₁ a₁ aG i₁ aP k₁ cs₁ l γ bX sv true it old w:=by
 unfold yS;intros
 unfold wF at cj;have hF:=U.refl (ah A) mine w;simp only[f126,Option.getD_some,cS,iQ,cH,GB,Nat.reduceBEq,Bool.false_eq_true,↓reduceIte]at cj⊢;refine a5 (aN G) Js 300 _ _ γ Jt ?_;u_c stepG_seq U.trans hF
 u_c stepG_seq U.trans hF
 repeat w_but "code.seq" U.trans
 exact Goes.stop (fun e c=>⟨rfl,fun d b=>cj e d b (U.trans hF c) ..⟩)
theorem ap5(G:A.Good){l:ab.av A.ar}{γ:ab.aT A.aQ}{sv:Bool}(f:bits .and .i32 old 2=2)
 (cj:∀w' a,(ah A).dN l γ a->U (ah A) mine w w'->wF A Stop m mine b₁ a₁ aG i₁ aP k₁ cs₁ l a bX sv false it old w'):
 yS A Stop m mine b₁ a₁ aG i₁ aP k₁ cs₁ l γ bX sv false it old w:=by
 unfold yS;intros
 unfold wF at cj;have hF:=U.refl (ah A) mine w;simp only[f126,Option.getD_some,cS,iQ,cH,GB,Nat.reduceBEq,Bool.false_eq_true,↓reduceIte]at cj⊢;refine a5 (aN G) Js 300 _ _ γ Jt ?_;u_c stepG_seq U.trans hF
 u_c stepG_seq U.trans hF
 repeat w_but "code.seq" U.trans
 exact Goes.stop (fun e c=>⟨rfl,fun d b=>cj e d b (U.trans hF c) ..⟩)
theorem ap6(G:A.Good){l:ab.av A.ar}{γ:ab.aT A.aQ}{sv:Bool}(g:bits .and .i32 old 2=0)(f:old / 8=0)
 (cj:∀w' a,(ah A).dN l γ a->U (ah A) mine w w'->wF A Stop m mine b₁ a₁ aG i₁ aP k₁ cs₁ l a bX sv false it old w'):
 yS A Stop m mine b₁ a₁ aG i₁ aP k₁ cs₁ l γ bX sv false it old w:=by
 unfold yS;intros
 unfold wF at cj;have hF:=U.refl (ah A) mine w;simp only[f126,Option.getD_some,cS,iQ,cH,GB,Nat.reduceBEq,Bool.false_eq_true,↓reduceIte]at cj⊢;refine a5 (aN G) Js 300 _ _ γ Jt ?_;u_c stepG_seq U.trans hF
 u_c stepG_seq U.trans hF
 repeat w_but "code.seq" U.trans
 exact Goes.stop (fun e c=>⟨rfl,fun d b=>cj e d b (U.trans hF c) ..⟩)
theorem ap7(G:A.Good){f:Nat}{a:A.ar}{γ:ab.aT A.aQ}{new kk:Int}{sv:Bool}{o:bk}(hl:¬A.left a)(J:∀b,A.K b\/mine b->b≠A.st)(t:tx (o.L=true/\o.S=false/\o.W=false))
 (N:bits .and .i32 (o.word:Int) 2=0) (M:(o.word:Int) / 8=kk) (L:(kk != 0)=true) (R:bits .or .i32 (o.word:Int) 2=new) (E:tx (new=(({o with W:=true}:bk).word:Int)))
 (s:∀w' e,e.be<γ.be->U (ah A) mine w w'->wF A Stop m mine b₁ a₁ aG i₁ aP k₁ cs₁ ⟨.jl,false,1,f+4,a⟩ e bX sv true it (o.word:Int) w')
 (r:∀w' e,(e=γ\/e.be<γ.be)->U (ah A) mine w w'->wF A Stop m mine b₁ a₁ aG i₁ aP k₁ cs₁ ⟨.mu,false,1,f+5,a⟩ e bX sv false it (o.word:Int) w'):
 yS A Stop m mine b₁ a₁ aG i₁ aP k₁ cs₁ ⟨.mu,false,1,f+5,a⟩ γ bX sv false it (o.word:Int) w:=by
 unfold yS;intros
 unfold wF at s r;have hF:=U.refl (ah A) mine w;simp only[f126,Option.getD_some,cS,iQ,cH,GB,Nat.reduceBEq,Bool.false_eq_true,↓reduceIte]at s r⊢;refine a5 (aN G) Js 300 _ _ γ Jt ?_;u_c stepG_seq U.trans hF
 u_c stepG_seq U.trans hF
 repeat w_but "code.seq" U.trans
 refine dj rfl hF fun Q D P q K c p d hF=>?_;have u:=(aN G).mq _ _ _ ((aN G).trans _ _ _ _ q p);have O:f+5<=c.be:=S1 d.sees;by_cases x:c.aC.word=o.word
 ·obtain⟨B,I,z,H⟩:=Ab x;have v:=ks d.mt.1;rw[x]at v;have F:new=(({c.aC with W:=true}:bk).word:Int):=by rw[tx.out E];simp only[bk.word,B,z,H]
  refine yQ G d (y:=.jl) (m1:={c.aC with W:=true}) (f1:=f+4) (stepG_cas_hit rfl rfl Bc rfl func125 z7 z8 z9 .i32 z_ rfl rfl rfl v (pA d.mt.1 0 none)) F rfl Aa rfl hl (akT (B.trans t.out.1) (z.trans t.out.2.1) (I.trans t.out.2.2) KI) Aa ?_;replace hF:=U.trans hF (vo (A:=A) (mine:=mine) J K 0 none (.int .i32 (({c.aC with W:=true}:bk).word:Int)));clear d p q D;refine a5 (aN G) Js 200 _ _ _ Jt ?_;walk_nrm
  repeat w_but "code.seq" U.trans
  refine Goes.stop (fun l j=>⟨rfl,fun n i=>?_⟩);exact s l n (by
   have k:∀g:ab.aT A.aQ,(g=({c with aC:={c.aC with W:=true},be:=c.be-1}:ab.aT A.aQ)\/g.be<c.be-1)->g.be<c.be:=by
    rintro g (rfl|h)
    ·show c.be-1<c.be;omega
    ·omega
   have:=k n (Or.imp id (fun h=>h.1) i);rcases u with C|C
   ·simp_all
   ·exact Nat.lt_trans this C) (U.trans hF j) ..
 ·refine Mw (stepG_cas_miss rfl rfl Bc rfl func125 z7 z8 z9 .i32 z_ rfl rfl rfl (ks d.mt.1) (pA d.mt.1 0 none) Ay) rfl Aa ?_;clear d p q D;refine a5 (aN G) Js 200 _ _ _ Jt ?_;walk_nrm
  repeat w_but "code.seq" U.trans
  exact Goes.stop (fun l j=>⟨rfl,fun n i=>(r l c u (U.trans hF j) ..).k5 (aN G) i⟩)
end
variable {w0:World}
section
section
variable {A:e_} {Stop:Bool->ab.av A.ar->a6->Prop} {m:Bool} {mine:Nat->Prop}
variable {b₁:Frame} {a₁:Act} {aG:Array Oper} {i₁:Nat} {aP:List Nat} {k₁:List Item} {cs₁:List Frame}
def NO(f:Nat)(x:bP)(dO:Nat)(sv aw:Bool)(o:bk):Prop:=
 (x=.mu/\dO=f+5/\sv=false/\aw=false)\/(x=.jl/\f+3<=dO/\dO<=f+4/\aw=true/\o.W=true/\o.S=false)
def D_(γ:ab.aT A.aQ)(o:bk)(it:Int):Nat:=γ.be*16+(if o.word=γ.aC.word then 0 else 8)+(4-it).toNat
theorem ap9{γ a:ab.aT A.aQ}{o o':bk}{b:Int}(h:a.be<γ.be)(hi:0<=b):D_ a o' b<D_ γ o it:=by grind[D_]
theorem Eb(fo:A.d4<=250){l:ab.av A.ar}{γ:ab.aT A.aQ}(h:hX (ah A) l γ):γ.aC.k<=250:=by obtain⟨aU,i,hi,a⟩:=h;have c:=a.lC.F1;have b:=a.len;grind
theorem ap_(G:A.Good){f:Nat}{a:A.ar}(hl:¬A.left a)(fo:A.d4<=250)(p:∀b,A.K b\/mine b->b≠A.st){γ:ab.aT A.aQ}{x:bP}{dO:Nat}{sv aw:Bool}{o:bk}(V:NO f x dO sv aw o)(hk:o.k<=250)
 (O:Behind A Stop m mine b₁ a₁ aG i₁ aP k₁ cs₁ f a w)
 (X:∀w' c I J,c.be<γ.be->U (ah A) mine w w'->hX (ah A) ⟨.jl,false,1,f+3,a⟩ c->sK A Stop m mine b₁ a₁ aG i₁ aP k₁ cs₁ ⟨.jl,false,1,f+3,a⟩ c I J true 0 (c.aC.word:Int) w')
 (dG:∀w' c v,(v=γ\/v.be<γ.be)->v.aC.word≠o.word->(c=v\/c.be<v.be)->U (ah A) mine w w'->hX (ah A) ⟨x,false,1,dO,a⟩ c->sK A Stop m mine b₁ a₁ aG i₁ aP k₁ cs₁ ⟨x,false,1,dO,a⟩ c bX sv aw it (c.aC.word:Int) w'):
 nM A Stop m mine b₁ a₁ aG i₁ aP k₁ cs₁ ⟨x,false,1,dO,a⟩ γ bX sv aw it (o.word:Int) w:=by
 have q:o.k<256:=Ay;have r:∀(w1:World)(bA:ab.aT A.aQ),U (ah A) mine w w1->(bA=γ\/bA.be<γ.be)->∀w' c,(c=bA\/c.be<bA.be)->c.aC.word≠o.word->U (ah A) mine w1 w'->xR A Stop m mine b₁ a₁ aG i₁ aP k₁ cs₁ ⟨x,false,1,dO,a⟩ c bX sv aw it (o.word:Int) false w':=by grind[apa,U.trans]
 have queue:∀(w1:World)(bA:ab.aT A.aQ),U (ah A) mine w w1->(bA=γ\/bA.be<γ.be)->(bits .and .i32 (o.word:Int) 5==0)=false->∀w' c,c.be<bA.be->U (ah A) mine w1 w'->xR A Stop m mine b₁ a₁ aG i₁ aP k₁ cs₁ ⟨.j7,false,1,f+2,a⟩ c bX sv aw it (o.word:Int) true w':=by
  intro w1 bA d h2 M w' c h3 D;have hb:c.be<γ.be:=by grind
  refine apb G M (fun w2 vb I e P=>api G hl Ay p (fun t u J eO z Q=>X t u I J ?_ (U.trans d (U.trans D (U.trans P z))) Q) (fun t u z=>O t u (U.trans d (U.trans D (U.trans P z)))));grind
 have take:∀(w1:World)(bA:ab.aT A.aQ),U (ah A) mine w w1->bits .and .i32 (o.word:Int) 5=0->∀w' c,c.be<bA.be->U (ah A) mine w1 w'->xR A Stop m mine b₁ a₁ aG i₁ aP k₁ cs₁ ⟨.own,false,1,f+2,a⟩ c bX sv aw it (o.word:Int) true w':=
  fun w1 bA d M w' c _ D=>ao_ G M hl (fun t u z=>O t u (U.trans d (U.trans D z)))
 have l:=JA o q;have g:=aaU o q;have a1:=SY o q;have R:=ao5 o q;have ad:=ao7 o q;rcases V with⟨rfl,rfl,rfl,rfl⟩|⟨rfl,Z,Y,rfl,hW,hS⟩
 ·cases hS:o.S with
  |false=>
   rw[hS]at l g;cases j:o.L with
   |false=>rw[j]at g;refine apV G l g R (fun w1 bA d e=>Gw (y:=.own) G hl p Ay (fun aC=>{aC with L:=true,W:=uZ .mu aC.W}) (fun aC h=>?_) (take w1 bA d g) (r w1 bA d ((aN G).mq _ _ _ e)));obtain⟨i,C,n,B⟩:=Ab h;exact⟨Rn Jt (i.trans j) (n.trans hS) Ay,by grind[bk.word,uZ],rfl⟩
   |true=>
    rw[j]at g;have H:bits .or .i32 (o.word:Int) 1=(o.word:Int):=by grind[bk.word]
    have s:(bits .and .i32 (o.word:Int) 5==0)=false:=AU;refine apW G l g H ad (fun w1 bA d e=>Gw (y:=.j7) G hl p Ay (fun aC=>{aC with k:=aC.k+1}) (fun aC h=>?_) (queue w1 bA d ((aN G).mq _ _ _ e) s) (r w1 bA d ((aN G).mq _ _ _ e)));obtain⟨i,C,n,B⟩:=Ab h;exact⟨YJ (.inl (i.trans j)) Ay,IS,rfl⟩
  |true=>
   rw[hS]at l g;have N:(bits .and .i32 (o.word:Int) 5 != 0)=true:=by grind
   have s:(bits .and .i32 (o.word:Int) 5==0)=false:=by grind
   refine apX G l N ad (fun w1 bA d e=>Gw (y:=.j7) G hl p Ay (fun aC=>{aC with k:=aC.k+1}) (fun aC h=>?_) (queue w1 bA d ((aN G).mq _ _ _ e) s) (r w1 bA d ((aN G).mq _ _ _ e)));obtain⟨i,C,n,B⟩:=Ab h;exact⟨YJ (.inr (n.trans hS)) Ay,IS,rfl⟩
 ·rw[hS]at l g;cases j:o.L with
  |false=>
   rw[j]at g a1;have F:bits .and .i32 (({o with L:=true}:bk).word:Int) 2=2:=by simp_all[JB]
   have E:=SZ ({o with L:=true}:bk) q;have gt:∀w1 bA,U (ah A) mine w w1->(ah A).dN ⟨.jl,false,1,dO,a⟩ γ bA->rQ A Stop m mine b₁ a₁ aG i₁ aP k₁ cs₁ ⟨.jl,false,1,dO,a⟩ bA bX sv true it (o.word:Int) (({o with L:=true,W:=false}:bk).word:Int) w1:=fun w1 bA d e=>by refine Gw (y:=.own) G hl p Ay (fun aC=>{aC with L:=true,W:=uZ .jl aC.W}) (fun aC h=>?_) (take w1 bA d g) (r w1 bA d ((aN G).mq _ _ _ e));obtain⟨i,C,n,B⟩:=Ab h;exact⟨Rn K0 (i.trans j) (n.trans hS) Ay,by grind[bk.word,uZ],rfl⟩
   cases sv with|false=>simp_all[apY]|true=>simp_all[apZ]
  |true=>
   rw[j]at g a1;have H:bits .or .i32 (o.word:Int) 1=(o.word:Int):=by grind[bk.word]
   have s:(bits .and .i32 (o.word:Int) 5==0)=false:=AU;have K:({o with k:=o.k+1}:bk).k<256:=AU;cases sv with
   |false=>
    have F:bits .and .i32 (({o with k:=o.k+1}:bk).word:Int) 2=2:=by simp_all[JB]
    have E:=SZ ({o with k:=o.k+1}:bk) K;refine ap0 G l g H ad F E (fun w1 bA d e=>Gw (y:=.j7) G hl p Ay (fun aC=>{aC with k:=aC.k+1,W:=false,S:=false}) (fun aC h=>?_) (queue w1 bA d ((aN G).mq _ _ _ e) s) (r w1 bA d ((aN G).mq _ _ _ e)));obtain⟨i,C,n,B⟩:=Ab h;exact⟨YK false (i.trans j) Ay,IS,rfl⟩
   |true=>
    have T:({o with k:=o.k+1,S:=true}:bk).k<256:=K;have bS:=ao6 ({o with k:=o.k+1}:bk) K;have F:bits .and .i32 (({o with k:=o.k+1,S:=true}:bk).word:Int) 2=2:=by simp_all[JB]
    have E:=SZ ({o with k:=o.k+1,S:=true}:bk) T;refine ap1 G l g a1 H ad bS F E (fun w1 bA d e=>Gw (y:=.j7) G hl p Ay (fun aC=>{aC with k:=aC.k+1,W:=false,S:=true}) (fun aC h=>?_) (queue w1 bA d ((aN G).mq _ _ _ e) s) (r w1 bA d ((aN G).mq _ _ _ e)));obtain⟨i,C,n,B⟩:=Ab h;exact⟨YK true (i.trans j) Ay,IS,rfl⟩
theorem aqb(G:A.Good){f:Nat}{a:A.ar}(hl:¬A.left a)(fo:A.d4<=250)(P:∀b,A.K b\/mine b->b≠A.st)(X:Behind A Stop m mine b₁ a₁ aG i₁ aP k₁ cs₁ f a w0):
 ∀(N:Nat)(γ:ab.aT A.aQ)(x:bP)(dO:Nat)(bX it:Int)(sv aw:Bool)(o:bk)(w:World),NO f x dO sv aw o->o.k<=250->0<=it->U (ah A) mine w0 w->D_ γ o it<N->sK A Stop m mine b₁ a₁ aG i₁ aP k₁ cs₁ ⟨x,false,1,dO,a⟩ γ bX sv aw it (o.word:Int) w:=by
 intro N;induction N with
 |zero=>grind
 |succ N E=>
  intro γ x dO bX it sv aw o w H V D u cj;have M:o.k<256:=Ay;have Y:=aaU o M;have ok':∀{c:ab.aT A.aQ},hX (ah A) ⟨x,false,1,dO,a⟩ c->NO f x dO sv aw c.aC:=fun S=>by
   rcases H with h|⟨i,d,j,g,_⟩
   ·exact .inl h
   ·have:=NK S i;exact .inr ⟨i,d,j,g,this.2,this.1⟩
  have lower:∀(c:ab.aT A.aQ)(v:bP)(z:Nat)(s B:Int)(r y:Bool)(o':bk)(w':World),c.be<γ.be->NO f v z r y o'->o'.k<=250->0<=B->U (ah A) mine w w'->sK A Stop m mine b₁ a₁ aG i₁ aP k₁ cs₁ ⟨v,false,1,z,a⟩ c s r y B (o'.word:Int) w':=
   fun c v z s B r y o' w' i d j g p=>E c v z s B r y o' w' d j g (U.trans u p) (by have:=ap9 (o:=o) (o':=o') (it:=it) i g;omega)
  have O:∀w1 bA,(ah A).dN ⟨x,false,1,dO,a⟩ γ bA->U (ah A) mine w w1->nM A Stop m mine b₁ a₁ aG i₁ aP k₁ cs₁ ⟨x,false,1,dO,a⟩ bA bX sv aw it (o.word:Int) w1:=by
   intro w1 bA F i;have W:bA=γ\/bA.be<γ.be:=(aN G).mq _ _ _ F;refine ap_ G hl fo P H V (fun w' c h=>X w' c (U.trans u (U.trans i h))) (fun w' c s r d j g=>?_) (fun w' c R d j g p k=>?_)
   ·have:=NK g rfl;refine lower c .jl (f+3) s 0 r true c.aC w' ?_ (.inr ⟨rfl,Nat.le_refl _,Nat.le_succ _,rfl,this.2,this.1⟩) (Eb fo g) (Int.le_refl _) (U.trans i j);grind
   ·
    by_cases t:c.be<γ.be
    ·grind[Eb,U.trans]
    ·have e1:bA=γ:=by grind
     have e2:R=γ:=by grind
     have I:c=γ:=by grind
     subst I;refine E c x dO bX it sv aw c.aC w' (ok' k) (Eb fo k) D (U.trans u (U.trans i p)) ?_;have T:o.word≠c.aC.word:=fun e=>j AU;unfold D_ at cj⊢;grind
  cases J:(o.L&& !o.S)with
  |false=>refine ap2 G ?_ O;rw[Y];cases K:o.L<;>cases hS:o.S<;>simp[K,hS]at J⊢
  |true=>
   have K:o.L=true:=by grind
   have hS:o.S=false:=by grind
   refine ap3 G AU O (fun g w1 bA F i=>?_);have W:bA=γ\/bA.be<γ.be:=(aN G).mq _ _ _ F;have again:∀(q:World)(n:ab.aT A.aQ),U (ah A) mine w1 q->(n=bA\/n.be<bA.be)->wF A Stop m mine b₁ a₁ aG i₁ aP k₁ cs₁ ⟨x,false,1,dO,a⟩ n bX sv aw it (o.word:Int) q:=by
    intro q n d Q;refine abk G D g (fun C l j p k=>?_);by_cases t:l.be<γ.be
    ·grind[Eb,U.trans]
    ·have I:l=γ:=by grind
     subst I;refine E l x dO bX (it+1) sv aw l.aC C (ok' k) (Eb fo k) Ay (U.trans u (U.trans i (U.trans d p))) ?_;unfold D_ at cj⊢;grind
   rcases H with⟨rfl,rfl,rfl,rfl⟩|⟨rfl,w_,Z,rfl,L,_⟩
   ·cases L:o.W with
    |true=>grind[ap5,JB]
    |false=>
     have d:bits .and .i32 (o.word:Int) 2=0:=by grind[JB]
     by_cases mA:o.k=0
     ·grind[ap6,JC]
     ·refine ap7 G hl P (show tx _ from⟨K,hS,L⟩) d (JC o) AU (aaW o M) (show tx (_=_)from rfl) (fun q n t d=>?_) (fun q n Q d=>again q n d Q);refine abk G D g (fun C l j p k=>?_);have:=NK k rfl;refine lower l .jl (f+4) bX (it+1) false true l.aC C ?_ (.inr ⟨rfl,Nat.le_succ _,Nat.le_refl _,rfl,this.2,this.1⟩) (Eb fo k) Ay (U.trans i (U.trans d p));grind
   grind[ap4]
end
end
section
section
variable {A:e_} {Stop:Bool->ab.av A.ar->a6->Prop} {m:Bool} {mine:Nat->Prop}
variable {b₁:Frame} {a₁:Act} {aG:Array Oper} {i₁:Nat} {aP:List Nat} {k₁:List Item} {cs₁:List Frame}
theorem aqd(G:A.Good){f:Nat}{a:A.ar}(hl:¬A.left a)(fo:A.d4<=250)(p:∀b,A.K b\/mine b->b≠A.st)(n:Behind A Stop m mine b₁ a₁ aG i₁ aP k₁ cs₁ f a w0)(w:World)(γ:ab.aT A.aQ)(o:U (ah A) mine w0 w):
 bh (ah A) prog Stop m ⟨.mu,false,1,f+5,a⟩ γ ⟨Conc.G ((base 126).at ⟨#[.pointer (some (ab.fI A)),undef,undef,undef,undef,undef,undef,undef,undef,undef,undef,undef,undef,undef,undef,undef,undef,undef,undef,undef,undef,undef,undef,undef,undef,undef,undef,undef,undef,undef,undef,undef,undef,undef,undef,undef,undef,undef,undef,undef,undef,undef,undef,undef,undef,undef,undef,undef,undef,undef,undef,undef,undef,undef,undef,undef,undef,undef,undef,undef,undef,undef,undef,undef,undef,undef,undef,undef,undef,undef,undef,undef,undef,undef,undef,undef,undef,undef,undef,undef,undef,undef,undef,undef,undef,undef,undef,undef,undef,undef,undef,undef,undef,undef,undef,undef,undef,undef,undef,undef,undef,undef,undef,undef,undef,undef,undef,undef,undef,undef,undef,undef,undef,undef,undef,undef,undef,undef,undef,undef,undef,undef,undef,undef,undef,undef,undef,undef,undef,undef,undef,undef,undef,undef,undef,undef,undef,undef,undef],[]⟩ [.code (f126.body.getD .skip)]) (b₁.at a₁ (.inRegion aG (i₁::aP)::k₁)::cs₁),w,mine⟩:=by
 have hF:=o;have e:=fun(c:ab.aT A.aQ)(w':World)(h:U (ah A) mine w0 w')(k:hX (ah A) ⟨.mu,false,1,f+5,a⟩ c)=>aqb G hl fo p n (D_ c c.aC 0+1) c .mu (f+5) 0 0 false false c.aC w' (.inl ⟨rfl,rfl,rfl,rfl⟩) (Eb fo k) (Int.le_refl _) h KI;unfold sK at e;simp only[f126,Option.getD_some,cS,iQ]at e⊢;refine a5 (aN G) Js 300 _ _ γ Jt ?_;repeat w_go U.trans
 refine dj rfl hF fun i g r t u q s d hF=>?_;have j:=d.sees;refine k8 (BK rfl rfl Bc rfl rfl (ks d.mt.1) Jz) rfl rfl (.refl _) rfl rfl ?_;clear d s t g;refine a5 (aN G) Js 200 _ _ _ Jt ?_;walk_nrm
 repeat w_but "code.loop" U.trans
 u_c stepG_loop U.trans hF
 exact Goes.stop (fun i g=>⟨rfl,fun r l=>(e q i (U.trans hF g) j ..).k5 (aN G) l⟩)
theorem abl(G:A.Good){f:Nat}{a:A.ar}(hl:¬A.left a)(fo:A.d4<=250)(v:∀b,A.K b\/mine b->b≠A.st)(s:Behind A Stop m mine b₁ a₁ aG i₁ aP k₁ cs₁ f a w0)(w:World)(γ:ab.aT A.aQ)(x:U (ah A) mine w0 w):
 bh (ah A) prog Stop m ⟨.idle,false,0,f+6,a⟩ γ ⟨Conc.G ((base 89).at ⟨#[.pointer (some (ab.fI A)),undef,undef,undef,undef,undef],[]⟩ [.code (f89.body.getD .skip)]) (b₁.at a₁ (.inRegion aG (i₁::aP)::k₁)::cs₁),w,mine⟩:=by
 have hF:=x;simp only[f89,Option.getD_some];refine a5 (aN G) Js 300 _ _ γ Jt ?_;repeat w_go U.trans
 u_call func113 aaN f113 U.trans hF
 repeat w_go U.trans
 refine dj rfl hF fun k d j i l e g c hF=>?_;refine sq (d1:=1) G c Jt (stepG_mark0 .disable Aa rfl rfl Bc rfl func70 D1 D2 D3 D4) rfl hl (akS (f1:=f+5) KI) Aa rfl ?_;clear c g i d;refine a5 (aN G) Js 200 _ _ _ Jt ?_;walk_nrm
 repeat w_go U.trans
 refine dj rfl hF fun k d j i l e g c hF=>?_;by_cases n:e.aC.word=0
 ·have o:=ks c.mt.1;rw[n]at o;obtain⟨u,D,t,C⟩:=SX n;have r:(1:Int)=(({e.aC with L:=true,W:=uZ .mu e.aC.W}:bk).word:Int):=by grind[bk.word,uZ]
  refine yQ G c (y:=.own) (m1:={e.aC with L:=true,W:=uZ .mu e.aC.W}) (f1:=f+2) (stepG_cas_hit rfl rfl Bc rfl func125 z7 z8 z9 .i32 z_ rfl rfl rfl o (pA c.mt.1 0 none)) r rfl Aa rfl hl (Rn Jt u t Aa) Aa ?_;replace hF:=U.trans hF (vo (A:=A) (mine:=mine) v l 0 none (.int .i32 (({e.aC with L:=true,W:=uZ .mu e.aC.W}:bk).word:Int)));clear u D t C r o n;clear c g i d;refine a5 (aN G) Js 200 _ _ _ Jt ?_;walk_nrm
  repeat w_go U.trans
  refine dj rfl hF fun k d j i l e g c hF=>?_;refine sq G c K0 (stepG_mark0 .enable Aa rfl rfl Bc rfl func71 oq ot ou ov) rfl hl (sn (f1:=f+1) KI _) Aa rfl ?_;clear c g i d;refine a5 (aN G) Js 200 _ _ _ Jt ?_;walk_nrm
  repeat w_go U.trans
  refine dj rfl hF fun k d j i l e g c hF=>?_;refine k8 (BJ rfl rfl Bc rfl rfl (ks c.mt.1)) rfl rfl (.refl _) rfl rfl ?_;clear c g i d;refine a5 (aN G) Js 200 _ _ _ Jt ?_;walk_nrm
  repeat w_go U.trans
  refine dj rfl hF fun k d j i l e g c hF=>?_;refine IP G c (f1:=f) (stepG_markAt .acquire Aa rfl rfl Bc rfl func84 BF BG BH BI CX) rfl hl rfl rfl rfl KI ?_;clear c g i d;refine a5 (aN G) Js 200 _ _ _ Jt ?_;walk_nrm
  repeat w_go U.trans
  u_leave0 func113 U.trans hF
  repeat w_go U.trans
  u_leave0 func89 U.trans hF
  exact Goes.stop (fun k d=>⟨rfl,fun j _=>s k j (U.trans hF d)⟩)
 ·refine Mw (stepG_cas_miss rfl rfl Bc rfl func125 z7 z8 z9 .i32 z_ rfl rfl rfl (ks c.mt.1) (pA c.mt.1 0 none) Ay) rfl Aa ?_;clear n;clear c g i d;refine a5 (aN G) Js 200 _ _ _ Jt ?_;walk_nrm
  repeat w_go U.trans
  u_call func126 aoR f126 U.trans hF
  refine Goes.stop (fun z p=>⟨rfl,fun B _=>aqd G hl fo v (fun E F q=>?_) z B (U.refl _ _ _)⟩);replace hF:=U.trans hF (U.trans p q);clear p q;refine a5 (aN G) Js 200 _ _ _ Jt ?_;walk_nrm
  repeat w_go U.trans
  u_leave0 func113 U.trans hF
  repeat w_go U.trans
  u_leave0 func89 U.trans hF
  exact Goes.stop (fun k d=>⟨rfl,fun j _=>s k j (U.trans hF d)⟩)
end
end
end ba
end Go.Proofs.YtoehnnefaeoeoaaGreat
