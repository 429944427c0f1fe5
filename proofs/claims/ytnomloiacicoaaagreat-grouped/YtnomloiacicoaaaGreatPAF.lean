import Derived.Test.YtnomloiacicoaaaGreatPAD
set_option linter.all false
set_option maxRecDepth 100000
set_option maxHeartbeats 16000000
namespace Go.Proofs.YtnomloiacicoaaaGreat
open Tryz
namespace bQ
open Conc RowKit Conc.Lib ConcR.Gen ConcM av bj ah
def Bt{A:fq}{Q:cE}{Stop:Bool->ah.Lo A.aq->a0->Prop}{m:Bool}{l:ah.Lo A.aq}{γ:ah.aQ A.aH}{X:a0}{w':aR}(G:A.Good)(b:ep (ao A) l γ X w'){g1:uaj}{y:b5}{m1:be}{f1:Nat}{v:Int}(hs:stepG Q m X.g w'=.go g1 (w'.setCell (ah.fW A) (.int .i32 v)) #[⟨.cell (ah.fW A),false,true⟩,⟨.cell (ah.fW A),true,true⟩])(hv:v=(m1.word:Int))(hrun:g1.status=.running)(hd:0<l.deaf)(d:m1.sema=γ.mu.sema)(c:¬A.left l.am)(ht:mm l.mx y γ.mu m1 l.fuel f1)(a:l.tok=true->y=.own)(h:bc (ao A) Q Stop m ({l with mx:=y,fuel:=f1}:ah.Lo A.aq) ({γ with mu:=m1,a7:=γ.a7-1}:ah.aQ A.aH) ⟨g1,w'.setCell (ah.fW A) (.int .i32 (m1.word:Int)),X.mine⟩):
 Then (Z:=ao A) Q Stop m l γ X w':=by
 grind[aoH]
def OF{A:fq}{Q:cE}{Stop:Bool->ah.Lo A.aq->a0->Prop}{m:Bool}{l:ah.Lo A.aq}{γ:ah.aQ A.aH}{X:a0}{w':aR}(G:A.Good)(c:ep (ao A) l γ X w'){g1:uaj}{y:b5}{m1:be}{f1:Nat}{v:Int}(hs:stepG Q m X.g w'=.go g1 (w'.setCell (ah.lp A) (.int .u32 v)) (semEvents (ah.lp A)))(hv:v=(m1.sema:Int))(hrun:g1.status=.running)(e:m1.word=γ.mu.word)(d:¬A.left l.am)(ht:mm l.mx y γ.mu m1 l.fuel f1)(b:l.tok=true->y=.own)(a:mayWake Q X.g=true\/0<γ.mu.sema)(h:bc (ao A) Q Stop m ({l with mx:=y,fuel:=f1}:ah.Lo A.aq) ({γ with mu:=m1,a7:=γ.a7-1}:ah.aQ A.aH) ⟨g1,w'.setCell (ah.lp A) (.int .u32 (m1.sema:Int)),X.mine⟩):Then (Z:=ao A) Q Stop m l γ X w':=by
 grind[aoI]
def wA{A mine}(h:∀b,A.K b\/mine b->b≠A.st)w off(sp)v:ai (ao A) mine w (w.setCell ⟨A.st,off,sp⟩ v):=
 ⟨λb a=>mN w _ v (h b a),BB,.refl _,Y,Y⟩
section
variable{A:fq}{Stop:Bool->ah.Lo A.aq->a0->Prop}{m:Bool}{mine:dL}
variable{a2:Frame}{aI:Act}{aC:fF}{aL:Nat}{aO:uac}{aK:uab}{csZ:hH}
def arS(G:A.Good){f a γ B it old kk sv aw}e(u:sv=false/\e=true\/sv=true/\e=true/\(kk==1)=true\/sv=true/\e=false/\(kk==1)=false/\2<=γ.mu.k){w}(p:¬A.left a)(fl:A.most<256)(h4:bits .and .i32 old 4=4)(h3:bits .and .i32 old 3=0)(hk:old / 8=kk)(E:(kk==0)=false)(z:∀b,A.K b\/mine b->b≠A.st)(v:Behind A Stop m mine a2 aI aC aL aO aK csZ f a w):
 EV A Stop m mine a2 aI aC aL aO aK csZ ⟨.hand,false,1,f+3,a⟩ γ B sv aw it old w:=by
 unfold EV j7;rcases u with⟨rfl,q⟩|⟨rfl,q,hq⟩|⟨rfl,q,hq,D⟩;all_goals
  intros
  have hF:=ai.refl (ao A) mine w;simp only[f125,vaf,dV,lz,eu,lA,Nat.reduceBEq,vah,↓reduceIte];refine bf G ?_;repeat w_go ai.trans
  refine ei Y hF λd c n l g i j h hF=>?_;obtain⟨ls,cT,hi,hg⟩:=h.sees;obtain⟨x,C,F,s,_⟩:=hg.mM.JY (G3 hi);have r:i.mu.k<256:=by have:=hg.mM.NA;have:=hg.len;grind
  have t:γ.mu.k<=i.mu.k:=by
   have h1:=(dE G).trans _ _ _ _ l j;rcases h1 with h1|⟨_,_,h1⟩
   .grind
   .exact h1.1 Y
  have o:=arN i.mu r s C x e;conv at o=>lhs;simp only[q,vah,↓reduceIte]
  refine Bt G h (y:=.own) (m1:={i.mu with L:=true,k:=i.mu.k-1,S:= !e}) (f1:=f+2) (vcu Y Y An Y func126 Ku Kv Kw .i32 Kx Y Y (mn h.mt.1) (qw h.mt.1 0 none)) o Y AS Y p (aot e AA Jo) AS ?_;replace hF:=ai.trans hF (wA (A:=A) (mine:=mine) z g 0 none (.int .i32 ((({i.mu with L:=true,k:=i.mu.k-1,S:= !e}:be).word:Nat):Int)));clear hi hg o r t;clear h j l c;refine bf G ?_;walk_nrm
  repeat w_go ai.trans
  refine ei Y hF λd c n l g i j h hF=>?_;refine tu G h Jz (vbz .enable AS Y Y An Y func70 rJ rK rL rM) Y p (tr (f1:=f+1) Jo _) AS Y ?_;clear h j l c;refine bf G ?_;walk_nrm
  repeat w_go ai.trans
  refine ei Y hF λd c n l g i j h hF=>?_;refine mo (Hs Y Y An Y Y (mn h.mt.1)) Y Y (.refl _) Y Y ?_;clear h j l c;refine bf G ?_;walk_nrm
  repeat w_go ai.trans
  refine ei Y hF λd c n l g i j h hF=>?_;refine TE G h (f1:=f) (vcq .acquire AS Y Y An Y func83 Ho Hp Hq Hr Bk) Y p Y Y Y Jo ?_;clear h j l c;refine bf G ?_;walk_nrm
  repeat w_go ai.trans
  u_leave0 func125 ai.trans hF
  repeat w_go ai.trans
  exact vaj (λd c=>⟨Y,λn _=>v d n (ai.trans hF c)⟩)
