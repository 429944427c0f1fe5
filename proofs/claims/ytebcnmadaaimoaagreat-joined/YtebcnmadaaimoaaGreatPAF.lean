import Derived.Test.YtebcnmadaaimoaaGreatPAD
set_option linter.all false
set_option maxRecDepth 100000
set_option maxHeartbeats 16000000
namespace Go.Proofs.YtebcnmadaaimoaaGreat
open Go.Proofs.Tryz
namespace bR
open Conc RowKit Conc.Lib ConcR.Gen ConcM az bo ag
def Bk{A:fe}{Q:cf}{Stop:Bool->ag.Lo A.ap->aX->Prop}{m:Bool}{l:ag.Lo A.ap}{γ:ag.aN A.aK}{X:aX}{w':aL}(G:A.Good)(b:dP (al A) l γ X w'){g1:uai}{y:b6}{m1:bn}{f1:Nat}{v:Int}(hs:stepG Q m X.g w'=.go g1 (w'.setCell (ag.fG A) (.int .i32 v)) #[⟨.cell (ag.fG A),false,true⟩,⟨.cell (ag.fG A),true,true⟩])(hv:v=(m1.word:Int))(hrun:g1.status=.running)(hd:0<l.deaf)(d:m1.sema=γ.mu.sema)(c:¬A.left l.aj)(ht:lZ l.mx y γ.mu m1 l.fuel f1)(a:l.tok=true->y=.own)(h:bg (al A) Q Stop m ({l with mx:=y,fuel:=f1}:ag.Lo A.ap) ({γ with mu:=m1,a6:=γ.a6-1}:ag.aN A.aK) ⟨g1,w'.setCell (ag.fG A) (.int .i32 (m1.word:Int)),X.mine⟩):
 Then (Z:=al A) Q Stop m l γ X w':=by
 grind[amh]
def Oa{A:fe}{Q:cf}{Stop:Bool->ag.Lo A.ap->aX->Prop}{m:Bool}{l:ag.Lo A.ap}{γ:ag.aN A.aK}{X:aX}{w':aL}(G:A.Good)(c:dP (al A) l γ X w'){g1:uai}{y:b6}{m1:bn}{f1:Nat}{v:Int}(hs:stepG Q m X.g w'=.go g1 (w'.setCell (ag.lf A) (.int .u32 v)) (semEvents (ag.lf A)))(hv:v=(m1.sema:Int))(hrun:g1.status=.running)(e:m1.word=γ.mu.word)(d:¬A.left l.aj)(ht:lZ l.mx y γ.mu m1 l.fuel f1)(b:l.tok=true->y=.own)(a:mayWake Q X.g=true\/0<γ.mu.sema)(h:bg (al A) Q Stop m ({l with mx:=y,fuel:=f1}:ag.Lo A.ap) ({γ with mu:=m1,a6:=γ.a6-1}:ag.aN A.aK) ⟨g1,w'.setCell (ag.lf A) (.int .u32 (m1.sema:Int)),X.mine⟩):Then (Z:=al A) Q Stop m l γ X w':=by
 grind[ami]
def vZ{A:fe}{mine:c7}(h:∀b,A.K b\/mine b->b≠A.st)(w:aL)(off:Nat)(sp)(v:Value):ak (al A) mine w (w.setCell ⟨A.st,off,sp⟩ v):=
 ⟨λb a=>nT w _ v (h b a),Bc,.refl _,U,U⟩
section
variable{A:fe}{Stop:Bool->ag.Lo A.ap->aX->Prop}{m:Bool}{mine:c7}
variable{a2:Frame}{aF:Act}{aC:du}{aJ:Nat}{aO:e8}{aH:fC}{csZ:dZ}
def arM(G:A.Good){f:Nat}{a:A.ap}{γ:ag.aN A.aK}{z it old kk:Int}{sv aw:Bool}(e:Bool)(v:sv=false/\e=true\/sv=true/\e=true/\(kk==1)=true\/sv=true/\e=false/\(kk==1)=false/\2<=γ.mu.k){w:aL}(q:¬A.left a)(eR:A.most<256)(H:bits .and .i32 old 4=4)(I:bits .and .i32 old 3=0)(hk:old / 8=kk)(D:(kk==0)=false)(B:∀b,A.K b\/mine b->b≠A.st)(x:Behind A Stop m mine a2 aF aC aJ aO aH csZ f a w):
 Em A Stop m mine a2 aF aC aJ aO aH csZ ⟨.hand,false,1,f+3,a⟩ γ z sv aw it old w:=by
 unfold Em jW;rcases v with⟨rfl,r⟩|⟨rfl,r,hq⟩|⟨rfl,r,hq,E⟩;all_goals
  intros
  have hF:=ak.refl (al A) mine w;simp only[f125,vae,dG,lr,er,lM,Nat.reduceBEq,vai,↓reduceIte];refine a9 G ?_;repeat w_go ak.trans
  refine dY U hF λd c n l g i j h hF=>?_;obtain⟨ls,dQ,hi,hg⟩:=h.sees;obtain⟨hS,C,F,u,_⟩:=hg.l4.I5 (FX hi);have s:i.mu.k<256:=by have:=hg.l4.MG;have:=hg.len;grind
  have t:γ.mu.k<=i.mu.k:=by
   have o:=(dk G).trans _ _ _ _ l j;rcases o with o|⟨_,_,o⟩
   .grind
   .exact o.1 U
  have p:=arH i.mu s u C hS e;conv at p=>lhs;simp only[r,vai,↓reduceIte]
  refine Bk G h (y:=.own) (m1:={i.mu with L:=true,k:=i.mu.k-1,S:= !e}) (f1:=f+2) (vda U U Ap U func126 J8 J9 J_ .i32 Ka U U (l5 h.mt.1) (pV h.mt.1 0 none)) p U Ab U q (al5 e AF Jz) Ab ?_;replace hF:=ak.trans hF (vZ (A:=A) (mine:=mine) B g 0 none (.int .i32 ((({i.mu with L:=true,k:=i.mu.k-1,S:= !e}:bn).word:Nat):Int)));clear hi hg p s t;clear h j l c;refine a9 G ?_;walk_nrm
  repeat w_go ak.trans
  refine dY U hF λd c n l g i j h hF=>?_;refine sV G h Kj (vbu .enable Ab U U Ap U func70 re rf rg rh) U q (sU (f1:=f+1) Jz _) Ab U ?_;clear h j l c;refine a9 G ?_;walk_nrm
  repeat w_go ak.trans
  refine dY U hF λd c n l g i j h hF=>?_;refine l6 (GQ U U Ap U U (l5 h.mt.1)) U U (.refl _) U U ?_;clear h j l c;refine a9 G ?_;walk_nrm
  repeat w_go ak.trans
  refine dY U hF λd c n l g i j h hF=>?_;refine RS G h (f1:=f) (vcw .acquire Ab U U Ap U func83 GL GM GN GO Bn) U q U U U Jz ?_;clear h j l c;refine a9 G ?_;walk_nrm
  repeat w_go ak.trans
  u_leave0 func125 ak.trans hF
  repeat w_go ak.trans
  exact vah (λd c=>⟨U,λn _=>x d n (ak.trans hF c)⟩)
