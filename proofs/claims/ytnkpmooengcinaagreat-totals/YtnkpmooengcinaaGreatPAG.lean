import Derived.Test.YtnkpmooengcinaaGreatPAD
set_option linter.all false
set_option maxRecDepth 100000
set_option maxHeartbeats 16000000
namespace Go.Proofs.YtnkpmooengcinaaGreat
open Go.Proofs.Tryz
namespace bM
open Conc RowKit Conc.Lib ConcR.Gen ConcM av bn ae
def An{A:e5}{Q:ck}{Stop:Bool->ae.Lo A.ao->aV->Prop}{m:Bool}{l:ae.Lo A.ao}{γ:ae.aM A.aN}{X:aV}{w':aH}(G:A.Good)(c:dI (ak A) l γ X w'){g1:uai}{y:bT}{m1:bh}{f1:Nat}{v:Int}(hs:stepG Q m X.g w'=.go g1 (w'.setCell (ae.fI A) (.int .i32 v)) #[⟨.cell (ae.fI A),false,true⟩,⟨.cell (ae.fI A),true,true⟩])(hv:v=(m1.word:Int))(hrun:g1.status=.running)(hd:0<l.deaf)(a:m1.sema=γ.mu.sema)(d:¬A.left l.aj)(ht:lr l.mx y γ.mu m1 l.fuel f1)(b:l.tok=true->y=.own)(h:bd (ak A) Q Stop m ({l with mx:=y,fuel:=f1}:ae.Lo A.ao) ({γ with mu:=m1,a4:=γ.a4-1}:ae.aM A.aN) ⟨g1,w'.setCell (ae.fI A) (.int .i32 (m1.word:Int)),X.mine⟩):
 Then (Z:=ak A) Q Stop m l γ X w':=by
 grind[ajJ]
def Mx{A:e5}{Q:ck}{Stop:Bool->ae.Lo A.ao->aV->Prop}{m:Bool}{l:ae.Lo A.ao}{γ:ae.aM A.aN}{X:aV}{w':aH}(G:A.Good)(c:dI (ak A) l γ X w'){g1:uai}{y:bT}{m1:bh}{f1:Nat}{v:Int}(hs:stepG Q m X.g w'=.go g1 (w'.setCell (ae.kL A) (.int .u32 v)) (semEvents (ae.kL A)))(hv:v=(m1.sema:Int))(hrun:g1.status=.running)(e:m1.word=γ.mu.word)(d:¬A.left l.aj)(ht:lr l.mx y γ.mu m1 l.fuel f1)(b:l.tok=true->y=.own)(a:mayWake Q X.g=true\/0<γ.mu.sema)(h:bd (ak A) Q Stop m ({l with mx:=y,fuel:=f1}:ae.Lo A.ao) ({γ with mu:=m1,a4:=γ.a4-1}:ae.aM A.aN) ⟨g1,w'.setCell (ae.kL A) (.int .u32 (m1.sema:Int)),X.mine⟩):Then (Z:=ak A) Q Stop m l γ X w':=by
 grind[ajK]
def vl{A:e5}{mine:c5}(h:∀b,A.K b\/mine b->b≠A.st)(w:aH)(off:Nat)(sp)(v:Value):ai (ak A) mine w (w.setCell ⟨A.st,off,sp⟩ v):=
 ⟨λb a=>k5 w _ v (h b a),BB,.refl _,U,U⟩
section
variable{A:e5}{Stop:Bool->ae.Lo A.ao->aV->Prop}{m:Bool}{mine:c5}
variable{aY:Frame}{aF:Act}{az:eQ}{aI:Nat}{aK:uag}{aG:uab}{csZ:fA}
def amT(G:A.Good){f:Nat}{a:A.ao}{γ:ae.aM A.aN}{C it old kk:Int}{sv aw:Bool}(e:Bool)(u:sv=false/\e=true\/sv=true/\e=true/\(kk==1)=true\/sv=true/\e=false/\(kk==1)=false/\2<=γ.mu.k){w:aH}(q:¬A.left a)(eR:A.most<256)(I:bits .and .i32 old 4=4)(J:bits .and .i32 old 3=0)(hk:old / 8=kk)(F:(kk==0)=false)(B:∀b,A.K b\/mine b->b≠A.st)(v:Behind A Stop m mine aY aF az aI aK aG csZ f a w):
 Df A Stop m mine aY aF az aI aK aG csZ ⟨.hand,false,1,f+3,a⟩ γ C sv aw it old w:=by
 unfold Df jG;rcases u with⟨rfl,r⟩|⟨rfl,r,hq⟩|⟨rfl,r,hq,E⟩;all_goals
  intros
  have hF:=ai.refl (ak A) mine w;simp only[f118,vah,dA,kR,ed,lY,Nat.reduceBEq,vai,↓reduceIte];refine a8 G ?_;repeat w_go ai.trans
  refine dO U hF λd c n j g i l h hF=>?_;obtain⟨ls,j8,hi,hg⟩:=h.sees;obtain⟨x,D,H,z,_⟩:=hg.lP.HR (EX hi);have s:i.mu.k<256:=by have:=hg.lP.Lp;have:=hg.len;grind
  have t:γ.mu.k<=i.mu.k:=by
   have o:=(df G).trans _ _ _ _ j l;rcases o with o|⟨_,_,o⟩
   .grind
   .exact o.1 U
  have p:=amO i.mu s z D x e;conv at p=>lhs;simp only[r,vai,↓reduceIte]
  refine An G h (y:=.own) (m1:={i.mu with L:=true,k:=i.mu.k-1,S:= !e}) (f1:=f+2) (vco U U Ad U func119 IK IL IM .i32 IN U U (lu h.mt.1) (pn h.mt.1 0 none)) p U Ab U q (ajw e AN IY) Ab ?_;replace hF:=ai.trans hF (vl (A:=A) (mine:=mine) B g 0 none (.int .i32 ((({i.mu with L:=true,k:=i.mu.k-1,S:= !e}:bh).word:Nat):Int)));clear hi hg p s t;clear h l j c;refine a8 G ?_;walk_nrm
  repeat w_go ai.trans
  refine dO U hF λd c n j g i l h hF=>?_;refine r5 G h Io (vbs .enable Ab U U Ad U func63 qv qw qx qy) U q (rZ (f1:=f+1) IY _) Ab U ?_;clear h l j c;refine a8 G ?_;walk_nrm
  repeat w_go ai.trans
  refine dO U hF λd c n j g i l h hF=>?_;refine lv (FE U U Ad U U (lu h.mt.1)) U U (.refl _) U U ?_;clear h l j c;refine a8 G ?_;walk_nrm
  repeat w_go ai.trans
  refine dO U hF λd c n j g i l h hF=>?_;refine PV G h (f1:=f) (vck .acquire Ab U U Ad U func76 FA FB FC FD BF) U q U U U IY ?_;clear h l j c;refine a8 G ?_;walk_nrm
  repeat w_go ai.trans
  u_leave0 func118 ai.trans hF
  repeat w_go ai.trans
  exact vaf (λd c=>⟨U,λn _=>v d n (ai.trans hF c)⟩)
