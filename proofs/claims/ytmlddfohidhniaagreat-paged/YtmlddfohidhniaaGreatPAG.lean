import Derived.Test.YtmlddfohidhniaaGreatPAD
set_option linter.all false
set_option maxRecDepth 100000
set_option maxHeartbeats 16000000
namespace Go.Proofs.YtmlddfohidhniaaGreat
open Go.Proofs.Tryz
namespace bM
open Conc RowKit Conc.Lib ConcR.Gen ConcM ax bp ag
def Au{A:e_}{Q:b4}{Stop:Bool->ag.Lo A.ao->aV->Prop}{m:Bool}{l:ag.Lo A.ao}{γ:ag.aO A.aI}{X:aV}{w':aS}(G:A.Good)(b:dQ (am A) l γ X w'){g1:uah}{y:bU}{m1:bk}{f1:Nat}{v:Int}(hs:stepG Q m X.g w'=.go g1 (w'.setCell (ag.fy A) (.int .i32 v)) #[⟨.cell (ag.fy A),false,true⟩,⟨.cell (ag.fy A),true,true⟩])(hv:v=(m1.word:Int))(hrun:g1.status=.running)(hd:0<l.deaf)(a:m1.sema=γ.mu.sema)(c:¬A.left l.al)(ht:lE l.mx y γ.mu m1 l.fuel f1)(d:l.tok=true->y=.own)(h:bg (am A) Q Stop m ({l with mx:=y,fuel:=f1}:ag.Lo A.ao) ({γ with mu:=m1,a_:=γ.a_-1}:ag.aO A.aI) ⟨g1,w'.setCell (ag.fy A) (.int .i32 (m1.word:Int)),X.mine⟩):
 Then (Z:=am A) Q Stop m l γ X w':=by
 grind[ak1]
def NN{A:e_}{Q:b4}{Stop:Bool->ag.Lo A.ao->aV->Prop}{m:Bool}{l:ag.Lo A.ao}{γ:ag.aO A.aI}{X:aV}{w':aS}(G:A.Good)(b:dQ (am A) l γ X w'){g1:uah}{y:bU}{m1:bk}{f1:Nat}{v:Int}(hs:stepG Q m X.g w'=.go g1 (w'.setCell (ag.kQ A) (.int .u32 v)) (semEvents (ag.kQ A)))(hv:v=(m1.sema:Int))(hrun:g1.status=.running)(e:m1.word=γ.mu.word)(c:¬A.left l.al)(ht:lE l.mx y γ.mu m1 l.fuel f1)(d:l.tok=true->y=.own)(a:mayWake Q X.g=true\/0<γ.mu.sema)(h:bg (am A) Q Stop m ({l with mx:=y,fuel:=f1}:ag.Lo A.ao) ({γ with mu:=m1,a_:=γ.a_-1}:ag.aO A.aI) ⟨g1,w'.setCell (ag.kQ A) (.int .u32 (m1.sema:Int)),X.mine⟩):Then (Z:=am A) Q Stop m l γ X w':=by
 grind[ak2]
def vz{A:e_}{mine:dh}(h:∀b,A.K b\/mine b->b≠A.st)(w:aS)(off:Nat)(sp)(v:Value):ah (am A) mine w (w.setCell ⟨A.st,off,sp⟩ v):=
 ⟨λb a=>nt w _ v (h b a),BK,.refl _,Y,Y⟩
section
variable{A:e_}{Stop:Bool->ag.Lo A.ao->aV->Prop}{m:Bool}{mine:dh}
variable{a4:Frame}{aF:Act}{aC:eY}{aK:Nat}{aM:uaa}{aH:il}{csZ:fV}
def aqE(G:A.Good){f:Nat}{a:A.ao}{γ:ag.aO A.aI}{x it old kk:Int}{sv aw:Bool}(e:Bool)(hc:sv=false/\e=true\/sv=true/\e=true/\(kk==1)=true\/sv=true/\e=false/\(kk==1)=false/\2<=γ.mu.k){w:aS}(q:¬A.left a)(eK:A.most<1048576)(F:bits .and .i32 old 4=4)(H:bits .and .i32 old 3=0)(hk:old / 8=kk)(C:(kk==0)=false)(z:∀b,A.K b\/mine b->b≠A.st)(v:Behind A Stop m mine a4 aF aC aK aM aH csZ f a w):
 DI A Stop m mine a4 aF aC aK aM aH csZ ⟨.hand,false,1,f+3,a⟩ γ x sv aw it old w:=by
 unfold DI jM;rcases hc with⟨rfl,r⟩|⟨rfl,r,hq⟩|⟨rfl,r,hq,D⟩;all_goals
  intros
  have hF:=ah.refl (am A) mine w;simp only[f127,vae,dA,kZ,dW,k0,Nat.reduceBEq,vah,↓reduceIte];refine bl G ?_;repeat w_go ah.trans
  refine dL Y hF λd c n l g i j h hF=>?_;obtain⟨ls,ee,hi,hg⟩:=h.sees;obtain⟨hS,B,E,u,_⟩:=hg.lF.IF (Fj hi);have s:i.mu.k<1048576:=by have:=hg.lF.Me;have:=hg.len;grind
  have t:γ.mu.k<=i.mu.k:=by
   have o:=(da G).trans _ _ _ _ l j;rcases o with o|⟨_,_,o⟩
   .grind
   .exact o.1 Y
  have p:=aqz i.mu s u B hS e;conv at p=>lhs;simp only[r,vah,↓reduceIte]
  refine Au G h (y:=.own) (m1:={i.mu with L:=true,k:=i.mu.k-1,S:= !e}) (f1:=f+2) (vcw Y Y Am Y func128 JG JH JI .i32 JJ Y Y (lG h.mt.1) (pG h.mt.1 0 none)) p Y Ad Y q (akN e AA Jo) Ad ?_;replace hF:=ah.trans hF (vz (A:=A) (mine:=mine) z g 0 none (.int .i32 ((({i.mu with L:=true,k:=i.mu.k-1,S:= !e}:bk).word:Nat):Int)));clear hi hg p s t;clear h j l c;refine bl G ?_;walk_nrm
  repeat w_go ah.trans
  refine dL Y hF λd c n l g i j h hF=>?_;refine sk G h KK (vbx .enable Ad Y Y Am Y func72 qy qz qA qB) Y q (sj (f1:=f+1) Jo _) Ad Y ?_;clear h j l c;refine bl G ?_;walk_nrm
  repeat w_go ah.trans
  refine dL Y hF λd c n l g i j h hF=>?_;refine lH (Ge Y Y Am Y Y (lG h.mt.1)) Y Y (.refl _) Y Y ?_;clear h j l c;refine bl G ?_;walk_nrm
  repeat w_go ah.trans
  refine dL Y hF λd c n l g i j h hF=>?_;refine RG G h (f1:=f) (vcu .acquire Ad Y Y Am Y func85 Ga Gb Gc Gd Bz) Y q Y Y Y Jo ?_;clear h j l c;refine bl G ?_;walk_nrm
  repeat w_go ah.trans
  u_leave0 func127 ah.trans hF
  repeat w_go ah.trans
  exact vai (λd c=>⟨Y,λn _=>v d n (ah.trans hF c)⟩)
