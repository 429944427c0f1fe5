import Derived.Test.YtebcnmadaaimoaaGreatPAD
set_option linter.all false
set_option maxRecDepth 100000
set_option maxHeartbeats 16000000
namespace Go.Proofs.YtebcnmadaaimoaaGreat
open Go.Proofs.Tryz
namespace bR
open Conc RowKit Conc.Lib ConcR.Gen ConcM az bo ag
section
section
variable{A:fe}{Stop:Bool->ag.Lo A.ap->aX->Prop}{m:Bool}{mine:c7}
variable{a2:Frame}{aF:Act}{aC:du}{aJ:Nat}{aO:e8}{aH:fC}{csZ:dZ}
def GV(G:A.Good){mx:b6}{hY:Nat}{a:A.ap}{γ:ag.aN A.aK}{l it old new:Int}{sv aw:Bool}{w:aL}(h:aw=false/\sv=false/\(bits .and .i32 old 4=0/\bits .and .i32 old 5=0/\bits .or .i32 old 1=new\/bits .and .i32 old 4=0/\bits .and .i32 old 5=1/\bits .or .i32 old 1=old/\IntKind.wrap .i32 (old+8)=new\/bits .and .i32 old 4=4/\(bits .and .i32 old 5 != 0)=true/\IntKind.wrap .i32 (old+8)=new)\/
  aw=true/\∃n1,bits .and .i32 n1 2=2/\bits .andNot .i32 n1 2=new/\bits .and .i32 old 4=0/\(bits .and .i32 old 5=0/\(sv=false\/sv=true/\bits .and .i32 old 1=0)/\bits .or .i32 old 1=n1\/bits .and .i32 old 5=1/\bits .or .i32 old 1=old/\(sv=false/\IntKind.wrap .i32 (old+8)=n1\/sv=true/\bits .and .i32 old 1=1/\∃n0,IntKind.wrap .i32 (old+8)=n0/\bits .or .i32 n0 4=n1)))(j:∀w' e,ak (al A) mine w w'->(al A).dO ⟨mx,false,1,hY,a⟩ γ e->Kd A Stop m mine a2 aF aC aJ aO aH csZ ⟨mx,false,1,hY,a⟩ e l sv aw it old new w'):Bj A Stop m mine a2 aF aC aJ aO aH csZ ⟨mx,false,1,hY,a⟩ γ l sv aw it old w:=by
 unfold Bj jW;intros
 unfold Kd at j;have hF:=ak.refl (al A) mine w;rcases h with⟨rfl,rfl,⟨k,f,d⟩|⟨k,f,d,i⟩|⟨k,f,i⟩⟩|⟨rfl,n1,p,hn,k,⟨f,rfl|⟨rfl,n⟩,d⟩|⟨f,d,⟨rfl,i⟩|⟨rfl,n,n0,i,o⟩⟩⟩;all_goals
  refine a9 G ?_;generalize hS:(λ(g:uai)(w:aL)=>g.status=.running/\_)=S;simp only[f125,vae,dG,lr,er,lM,oM,Nat.reduceBEq,vai,↓reduceIte]at j⊢;repeat w_go ak.trans
  refine vah (λb c=>?_);replace hF:=ak.trans hF c;subst hS;exact⟨U,λe d=>j b e hF d ..⟩
