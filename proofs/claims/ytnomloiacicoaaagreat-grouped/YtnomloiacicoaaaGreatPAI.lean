import Derived.Test.YtnomloiacicoaaaGreatPAD
set_option linter.all false
set_option maxRecDepth 100000
set_option maxHeartbeats 16000000
namespace Go.Proofs.YtnomloiacicoaaaGreat
open Tryz
namespace bQ
open Conc RowKit Conc.Lib ConcR.Gen ConcM av bj ah
def Hw:Code->Option Code
 | .block _ (.seq (.seq _ (.cond _ x _)) _)=>some x
 | _=>none
def uY(A:fq)(Stop:Bool->ah.Lo A.aq->a0->Prop)(m:Bool)(mine:dL)(a2:Frame)(aI:Act)(aC:fF)(aL:Nat)(aO:uac)(aK:uab)(csZ:hH)(l:ah.Lo A.aq)(γ:ah.aQ A.aH)(cK:Int)(sv aw:Bool)(it old:Int)(w:aR):Prop:=
 j7 [.code ((eu 8 ((dV (f125.body.getD .skip)).getD .skip)).getD .skip),.code ((eu 11 ((dV (f125.body.getD .skip)).getD .skip)).getD .skip),.inBlock 1,.inLoop ((dV (f125.body.getD .skip)).getD .skip),.inBlock 0,.code ((lz (f125.body.getD .skip)).getD .skip)] A Stop m mine a2 aI aC aL aO aK csZ l γ cK sv aw it old w
def x1(A:fq)(Stop:Bool->ah.Lo A.aq->a0->Prop)(m:Bool)(mine:dL)(a2:Frame)(aI:Act)(aC:fF)(aL:Nat)(aO:uac)(aK:uab)(csZ:hH)(l:ah.Lo A.aq)(γ:ah.aQ A.aH)(cK:Int)(sv aw:Bool)(it old:Int)(w:aR):Prop:=
 j7 [.code ((Hw ((dV (f125.body.getD .skip)).getD .skip)).getD .skip),.code ((eu 11 ((dV (f125.body.getD .skip)).getD .skip)).getD .skip),.inBlock 1,.inLoop ((dV (f125.body.getD .skip)).getD .skip),.inBlock 0,.code ((lz (f125.body.getD .skip)).getD .skip)] A Stop m mine a2 aI aC aL aO aK csZ l γ cK sv aw it old w
variable{cK it old:Int}{w:aR}
section
variable{A:fq}{Stop:Bool->ah.Lo A.aq->a0->Prop}{m:Bool}{mine:dL}
variable{a2:Frame}{aI:Act}{aC:fF}{aL:Nat}{aO:uac}{aK:uab}{csZ:hH}
def asy(G:A.Good){l:ah.Lo A.aq}{γ:ah.aQ A.aH}{sv aw:Bool}(g:(bits .and .i32 old 5==1)=false)(c:∀w' d,(ao A).ey l γ d->ai (ao A) mine w w'->Bs A Stop m mine a2 aI aC aL aO aK csZ l d cK sv aw it old w'):
 qF A Stop m mine a2 aI aC aL aO aK csZ l γ cK sv aw it old w:=by
 unfold qF j7;intros
 unfold Bs j7 at c;have hF:=ai.refl (ao A) mine w;simp only[f125,vaf,dV,lz,eu,Nat.reduceBEq,vah,↓reduceIte]at c⊢;refine bf G ?_;u_c stepG_block ai.trans hF
 u_c vel ai.trans hF
 u_c vel ai.trans hF
 repeat w_but "code.seq" ai.trans
 exact vaj (λa b=>⟨Y,λf e=>c a f e (ai.trans hF b) ..⟩)
def asz(G:A.Good){l:ah.Lo A.aq}{γ:ah.aQ A.aH}{sv aw:Bool}(r:bits .and .i32 old 5=1)(g:∀w' f,(ao A).ey l γ f->ai (ao A) mine w w'->Bs A Stop m mine a2 aI aC aL aO aK csZ l f cK sv aw it old w')(i:it<4->∀w' f,(ao A).ey l γ f->ai (ao A) mine w w'->x1 A Stop m mine a2 aI aC aL aO aK csZ l f cK sv aw it old w'):
 qF A Stop m mine a2 aI aC aL aO aK csZ l γ cK sv aw it old w:=by
 unfold qF j7;intros
 unfold Bs j7 at g;unfold x1 j7 at i;have hF:=ai.refl (ao A) mine w;simp only[f125,vaf,dV,lz,eu,Hw,Nat.reduceBEq,vah,↓reduceIte]at g i⊢;refine bf G ?_;repeat w_go ai.trans
 refine ei Y hF λb a d o c q j p hF=>?_;have h:=(dE G).trans _ _ _ _ o j;by_cases h4:it<4
 .refine mo (stepG_canSpin_ask Y Y An Y func142 Xy Xx Xo Xg (k:=.i64) (n:=it) Bk h4) Y Y (.refl _) Y Y ?_;replace hF:=ai.trans hF (⟨λ_ _=>Y,vac _,.refl _,Y,Y⟩:ai (ao A) mine c c.asked);clear p j o a;cases c.spins with
  |false=>
   refine bf G ?_;walk_nrm
   repeat w_but "code.seq" ai.trans
   exact vaj (λb a=>⟨Y,λd e=>g b d ((dE G).trans _ _ _ _ h e) (ai.trans hF a) ..⟩)
  |true=>
   refine bf G ?_;walk_nrm
   repeat w_but "code.seq" ai.trans
   exact vaj (λb a=>⟨Y,λd e=>i h4 b d ((dE G).trans _ _ _ _ h e) (ai.trans hF a) ..⟩)
 .refine mo (stepG_canSpin_no Y Y An Y func142 Xy Xx Xo Xg (k:=.i64) (n:=it) Bk AQ) Y Y (.refl _) Y Y ?_;clear p j o a;refine bf G ?_;walk_nrm
  repeat w_but "code.seq" ai.trans
  exact vaj (λb a=>⟨Y,λd e=>g b d ((dE G).trans _ _ _ _ h e) (ai.trans hF a) ..⟩)
def Ui(G:A.Good){l:ah.Lo A.aq}{γ:ah.aQ A.aH}{sv aw:Bool}(r:0<=it)(q:it<4)(g:∀w' d,(d=γ\/d.a7<γ.a7)->ai (ao A) mine w w'->ib (ao A) l d->qF A Stop m mine a2 aI aC aL aO aK csZ l d cK sv aw (it+1) (d.mu.word:Int) w'):
 uY A Stop m mine a2 aI aC aL aO aK csZ l γ cK sv aw it old w:=by
 unfold uY j7;intros
 unfold qF j7 at g;have hF:=ai.refl (ao A) mine w;have t:IntKind.wrap .i64 (it+1)=it+1:=CL;simp only[f125,vaf,dV,lz,eu,Nat.reduceBEq,vah,↓reduceIte]at g⊢;refine bf G ?_;repeat w_go ai.trans
 refine ei Y hF λb a k f j s e c hF=>?_;have h:=(dE G).trans _ _ _ _ f e;refine mo (stepG_entry_pure (.tuple #[]) Y Y An Y func143 arp arq ars art) Y Y (.refl _) Y Y ?_;clear c e f a;refine bf G ?_;walk_nrm
 repeat w_go ai.trans
 refine ei Y hF λb a k f i p e c hF=>?_;have n:=(dE G).less _ _ _ ((dE G).trans _ _ _ _ h ((dE G).trans _ _ _ _ f e));have o:=c.sees;refine mo (Br Y Y An Y Y (mn c.mt.1) Kz) Y Y (.refl _) Y Y ?_;clear c e f a;refine bf G ?_;walk_nrm
 repeat w_nl ai.trans
 u_c stepG_inLoop ai.trans hF
 exact vaj (λb a=>⟨Y,λk h=>(g b p n (ai.trans hF a) o ..).ln (dE G) h⟩)
