import Derived.Test.YtncomcmfgmojkaaGreatPAE
set_option linter.all false
set_option maxRecDepth 100000
set_option maxHeartbeats 16000000
namespace Go.Proofs.YtncomcmfgmojkaaGreat
open Go.Proofs.Tryz
namespace bO
open Conc RowKit Conc.Lib ConcR.Gen ConcM av bn ah
def Ab{A:eR}{Q:cg}{Stop:Bool->ah.Lo A.al->aV->Prop}{m:Bool}{l:ah.Lo A.al}{γ:ah.aN A.aJ}{X:aV}{w':aO}(G:A.Good)(d:dO (ak A) l γ X w'){g1:Goroutine}{y:bU}{m1:bj}{f1:Nat}{v:Int}(hs:stepG Q m X.g w'=.go g1 (w'.setCell (ah.fN A) (.int .i32 v)) #[⟨.cell (ah.fN A),false,true⟩,⟨.cell (ah.fN A),true,true⟩])(c:v=(m1.word:Int))(hrun:g1.status=.running)(hd:0<l.deaf)(a:m1.sema=γ.mu.sema)(e:¬A.left l.am)(ht:lv l.mx y γ.mu m1 l.fuel f1)(b:l.tok=true->y=.own)(h:bh (ak A) Q Stop m ({l with mx:=y,fuel:=f1}:ah.Lo A.al) ({γ with mu:=m1,a_:=γ.a_-1}:ah.aN A.aJ) ⟨g1,w'.setCell (ah.fN A) (.int .i32 (m1.word:Int)),X.mine⟩):
 Then (Z:=ak A) Q Stop m l γ X w':=by
 grind[ak9]
def Ni{A:eR}{Q:cg}{Stop:Bool->ah.Lo A.al->aV->Prop}{m:Bool}{l:ah.Lo A.al}{γ:ah.aN A.aJ}{X:aV}{w':aO}(G:A.Good)(d:dO (ak A) l γ X w'){g1:Goroutine}{y:bU}{m1:bj}{f1:Nat}{v:Int}(hs:stepG Q m X.g w'=.go g1 (w'.setCell (ah.ko A) (.int .u32 v)) (semEvents (ah.ko A)))(c:v=(m1.sema:Int))(hrun:g1.status=.running)(f:m1.word=γ.mu.word)(e:¬A.left l.am)(ht:lv l.mx y γ.mu m1 l.fuel f1)(b:l.tok=true->y=.own)(a:mayWake Q X.g=true\/0<γ.mu.sema)(h:bh (ak A) Q Stop m ({l with mx:=y,fuel:=f1}:ah.Lo A.al) ({γ with mu:=m1,a_:=γ.a_-1}:ah.aN A.aJ) ⟨g1,w'.setCell (ah.ko A) (.int .u32 (m1.sema:Int)),X.mine⟩):Then (Z:=ak A) Q Stop m l γ X w':=by
 grind[ak_]
def uR{A:eR}{mine:Nat->Prop}(h:∀b,A.K b\/mine b->b≠A.st)(w:aO)(off:Nat)(sp)(v:Value):ai (ak A) mine w (w.setCell ⟨A.st,off,sp⟩ v):=
 ⟨λb a=>ni w _ v (h b a),Br,.refl _,Y,Y⟩
section
variable{A:eR}{Stop:Bool->ah.Lo A.al->aV->Prop}{m:Bool}{mine:Nat->Prop}
variable{a2:Frame}{aF:Act}{aD:Array Oper}{aI:Nat}{aL:List Nat}{aH:List Item}{csZ:List Frame}
def apy(G:A.Good){f:Nat}{a:A.al}{γ:ah.aN A.aJ}{z it old kk:Int}{sv aw:Bool}(e:Bool)(u:sv=false/\e=true\/sv=true/\e=true/\(kk==1)=true\/sv=true/\e=false/\(kk==1)=false/\2<=γ.mu.k){w:aO}(p:¬A.left a)(e9:A.most<256)(F:bits .and .i32 old 4=4)(h3:bits .and .i32 old 3=0)(hk:old / 8=kk)(D:(kk==0)=false)(x:∀b,A.K b\/mine b->b≠A.st)(v:Behind A Stop m mine a2 aF aD aI aL aH csZ f a w):
 Dr A Stop m mine a2 aF aD aI aL aH csZ ⟨.hand,false,1,f+3,a⟩ γ z sv aw it old w:=by
 unfold Dr jf;rcases u with⟨rfl,q⟩|⟨rfl,q,hq⟩|⟨rfl,q,hq,C⟩;all_goals
  intros
  have hF:=ai.refl (ak A) mine w;simp only[f129,Option.getD_some,dp,kx,dR,ky,Nat.reduceBEq,Bool.false_eq_true,↓reduceIte];refine bk G ?_;repeat w_go ai.trans
  refine dH Y hF λd c n l g i j h hF=>?_;obtain⟨ls,dM,hi,hg⟩:=h.sees;obtain⟨hS,B,E,s,_⟩:=hg.lx.Ip (Fy hi);have r:i.mu.k<256:=by have:=hg.lx.LY;have:=hg.len;grind
  have t:γ.mu.k<=i.mu.k:=by
   have h1:=(dg G).trans _ _ _ _ l j;rcases h1 with h1|⟨_,_,h1⟩
   .grind
   .exact h1.1 Y
  have o:=apt i.mu r s B hS e;conv at o=>lhs;simp only[q,Bool.false_eq_true,↓reduceIte]
  refine Ab G h (y:=.own) (m1:={i.mu with L:=true,k:=i.mu.k-1,S:= !e}) (f1:=f+2) (stepG_add_atomic Y Y BJ Y func130 I5 I6 I7 .i32 I8 Y Y (ly h.mt.1) (pm h.mt.1 0 none)) o Y A_ Y p (akX e AA KX) A_ ?_;replace hF:=ai.trans hF (uR (A:=A) (mine:=mine) x g 0 none (.int .i32 ((({i.mu with L:=true,k:=i.mu.k-1,S:= !e}:bj).word:Nat):Int)));clear hi hg o r t;clear h j l c;refine bk G ?_;walk_nrm
  repeat w_go ai.trans
  refine dH Y hF λd c n l g i j h hF=>?_;refine rU G h K1 (stepG_mark0 .enable A_ Y Y BJ Y func74 qy qz qA qB) Y p (rS (f1:=f+1) KX _) A_ Y ?_;clear h j l c;refine bk G ?_;walk_nrm
  repeat w_go ai.trans
  refine dH Y hF λd c n l g i j h hF=>?_;refine lz (F7 Y Y BJ Y Y (ly h.mt.1)) Y Y (.refl _) Y Y ?_;clear h j l c;refine bk G ?_;walk_nrm
  repeat w_go ai.trans
  refine dH Y hF λd c n l g i j h hF=>?_;refine RH G h (f1:=f) (stepG_markAt .acquire A_ Y Y BJ Y func87 F3 F4 F5 F6 B4) Y p Y Y Y KX ?_;clear h j l c;refine bk G ?_;walk_nrm
  repeat w_go ai.trans
  u_leave0 func129 ai.trans hF
  repeat w_go ai.trans
  exact Goes.stop (λd c=>⟨Y,λn _=>v d n (ai.trans hF c)⟩)
end
end bO
end Go.Proofs.YtncomcmfgmojkaaGreat
