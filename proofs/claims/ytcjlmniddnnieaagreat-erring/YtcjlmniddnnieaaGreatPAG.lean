import Derived.Test.YtcjlmniddnnieaaGreatPAE
set_option linter.all false
set_option maxRecDepth 100000
set_option maxHeartbeats 16000000
namespace Go.Proofs.YtcjlmniddnnieaaGreat
open Tryz
namespace bz
open Conc RowKit Conc.Lib ConcR.Gen ConcM au bn ai
def Bq{A:e9}{Q:cf}{Stop:Bool->ai.Lo A.ao->aX->Prop}{m:Bool}{l:ai.Lo A.ao}{γ:ai.aN A.aO}{X:aX}{w':aH}(G:A.Good)(b:dN (am A) l γ X w'){g1:uaf}{y:b3}{m1:bp}{f1:Nat}{v:Int}(hs:stepG Q m X.g w'=.go g1 (w'.setCell (ai.fP A) (.int .i32 v)) #[⟨.cell (ai.fP A),false,true⟩,⟨.cell (ai.fP A),true,true⟩])(hv:v=(m1.word:Int))(hrun:g1.status=.running)(hd:0<l.deaf)(d:m1.sema=γ.mu.sema)(c:¬A.left l.al)(ht:lZ l.mx y γ.mu m1 l.fuel f1)(a:l.tok=true->y=.own)(h:bf (am A) Q Stop m ({l with mx:=y,fuel:=f1}:ai.Lo A.ao) ({γ with mu:=m1,a6:=γ.a6-1}:ai.aN A.aO) ⟨g1,w'.setCell (ai.fP A) (.int .i32 (m1.word:Int)),X.mine⟩):
 Then (Z:=am A) Q Stop m l γ X w':=by
 grind[anM]
def Oy{A:e9}{Q:cf}{Stop:Bool->ai.Lo A.ao->aX->Prop}{m:Bool}{l:ai.Lo A.ao}{γ:ai.aN A.aO}{X:aX}{w':aH}(G:A.Good)(c:dN (am A) l γ X w'){g1:uaf}{y:b3}{m1:bp}{f1:Nat}{v:Int}(hs:stepG Q m X.g w'=.go g1 (w'.setCell (ai.k_ A) (.int .u32 v)) (semEvents (ai.k_ A)))(hv:v=(m1.sema:Int))(hrun:g1.status=.running)(e:m1.word=γ.mu.word)(d:¬A.left l.al)(ht:lZ l.mx y γ.mu m1 l.fuel f1)(b:l.tok=true->y=.own)(a:mayWake Q X.g=true\/0<γ.mu.sema)(h:bf (am A) Q Stop m ({l with mx:=y,fuel:=f1}:ai.Lo A.ao) ({γ with mu:=m1,a6:=γ.a6-1}:ai.aN A.aO) ⟨g1,w'.setCell (ai.k_ A) (.int .u32 (m1.sema:Int)),X.mine⟩):Then (Z:=am A) Q Stop m l γ X w':=by
 grind[anN]
def wz{A:e9}{mine:dY}(h:∀b,A.K b\/mine b->b≠A.st)(w:aH)(off:Nat)(sp)(v:Value):ak (am A) mine w (w.setCell ⟨A.st,off,sp⟩ v):=
 ⟨λb a=>m3 w _ v (h b a),BR,.refl _,Y,Y⟩
section
variable{A:e9}{Stop:Bool->ai.Lo A.ao->aX->Prop}{m:Bool}{mine:dY}
variable{a2:Frame}{aD:Act}{aB:fC}{aJ:Nat}{aL:uad}{aG:uaa}{csZ:fG}
def arV(G:A.Good){f:Nat}{a:A.ao}{γ:ai.aN A.aO}{B it old kk:Int}{sv aw:Bool}(e:Bool)(v:sv=false/\e=true\/sv=true/\e=true/\(kk==1)=true\/sv=true/\e=false/\(kk==1)=false/\2<=γ.mu.k){w:aH}(q:¬A.left a)(e5:A.most<256)(H:bits .and .i32 old 4=4)(I:bits .and .i32 old 3=0)(hk:old / 8=kk)(E:(kk==0)=false)(z:∀b,A.K b\/mine b->b≠A.st)(x:Behind A Stop m mine a2 aD aB aJ aL aG csZ f a w):
 EB A Stop m mine a2 aD aB aJ aL aG csZ ⟨.hand,false,1,f+3,a⟩ γ B sv aw it old w:=by
 unfold EB jQ;rcases v with⟨rfl,r⟩|⟨rfl,r,hq⟩|⟨rfl,r,hq,D⟩;all_goals
  intros
  have hF:=ak.refl (am A) mine w;simp only[f127,vae,dC,lr,dJ,kC,Nat.reduceBEq,vaf,↓reduceIte];refine bb G ?_;repeat w_go ak.trans
  refine dU Y hF λd c n j g i l h hF=>?_;obtain⟨ls,iF,hi,hg⟩:=h.sees;obtain⟨hS,C,F,t,_⟩:=hg.l3.JA (Gq hi);have s:i.mu.k<256:=by have:=hg.l3.Ni;have:=hg.len;grind
  have u:γ.mu.k<=i.mu.k:=by
   have o:=(c_ G).trans _ _ _ _ j l;rcases o with o|⟨_,_,o⟩
   .grind
   .exact o.1 Y
  have p:=arQ i.mu s t C hS e;conv at p=>lhs;simp only[r,vaf,↓reduceIte]
  refine Bq G h (y:=.own) (m1:={i.mu with L:=true,k:=i.mu.k-1,S:= !e}) (f1:=f+2) (stepG_add_atomic Y Y Ag Y func128 Kr Ks Kt .i32 Ku Y Y (l4 h.mt.1) (p9 h.mt.1 0 none)) p Y AQ Y q (anz e AJ Kn) AQ ?_;replace hF:=ak.trans hF (wz (A:=A) (mine:=mine) z g 0 none (.int .i32 ((({i.mu with L:=true,k:=i.mu.k-1,S:= !e}:bp).word:Nat):Int)));clear hi hg p s u;clear h l j c;refine bb G ?_;walk_nrm
  repeat w_go ak.trans
  refine dU Y hF λd c n j g i l h hF=>?_;refine s7 G h LO (vbu .enable AQ Y Y Ag Y func72 rm rn rp rq) Y q (s5 (f1:=f+1) Kn _) AQ Y ?_;clear h l j c;refine bb G ?_;walk_nrm
  repeat w_go ak.trans
  refine dU Y hF λd c n j g i l h hF=>?_;refine l5 (GY Y Y Ag Y Y (l4 h.mt.1)) Y Y (.refl _) Y Y ?_;clear h l j c;refine bb G ?_;walk_nrm
  repeat w_go ak.trans
  refine dU Y hF λd c n j g i l h hF=>?_;refine SX G h (f1:=f) (vck .acquire AQ Y Y Ag Y func85 GR GU GV GX Bi) Y q Y Y Y Kn ?_;clear h l j c;refine bb G ?_;walk_nrm
  repeat w_go ak.trans
  u_leave0 func127 ak.trans hF
  repeat w_go ak.trans
  exact vag (λd c=>⟨Y,λn _=>x d n (ak.trans hF c)⟩)
