import Derived.Test.YtmlddfohidhniaaGreatPAD
set_option linter.all false
set_option maxRecDepth 100000
set_option maxHeartbeats 16000000
namespace Go.Proofs.YtmlddfohidhniaaGreat
open Go.Proofs.Tryz
namespace bM
open Conc RowKit Conc.Lib ConcR.Gen ConcM ax bp ag
section
section
variable{A:e_}{Stop:Bool->ag.Lo A.ao->aV->Prop}{m:Bool}{mine:dh}
variable{a4:Frame}{aF:Act}{aC:eY}{aK:Nat}{aM:uaa}{aH:il}{csZ:fV}
def Gj(G:A.Good){mx:bU}{gU:Nat}{a:A.ao}{γ:ag.aO A.aI}{l it old new:Int}{sv aw:Bool}{w:aS}(h:aw=false/\sv=false/\(bits .and .i32 old 4=0/\bits .and .i32 old 5=0/\bits .or .i32 old 1=new\/bits .and .i32 old 4=0/\bits .and .i32 old 5=1/\bits .or .i32 old 1=old/\IntKind.wrap .i32 (old+8)=new\/bits .and .i32 old 4=4/\(bits .and .i32 old 5 != 0)=true/\IntKind.wrap .i32 (old+8)=new)\/
  aw=true/\∃n1,bits .and .i32 n1 2=2/\bits .andNot .i32 n1 2=new/\bits .and .i32 old 4=0/\(bits .and .i32 old 5=0/\(sv=false\/sv=true/\bits .and .i32 old 1=0)/\bits .or .i32 old 1=n1\/bits .and .i32 old 5=1/\bits .or .i32 old 1=old/\(sv=false/\IntKind.wrap .i32 (old+8)=n1\/sv=true/\bits .and .i32 old 1=1/\∃n0,IntKind.wrap .i32 (old+8)=n0/\bits .or .i32 n0 4=n1)))(j:∀w' e,ah (am A) mine w w'->(am A).dZ ⟨mx,false,1,gU,a⟩ γ e->JN A Stop m mine a4 aF aC aK aM aH csZ ⟨mx,false,1,gU,a⟩ e l sv aw it old new w'):As A Stop m mine a4 aF aC aK aM aH csZ ⟨mx,false,1,gU,a⟩ γ l sv aw it old w:=by
 unfold As jM;intros
 unfold JN at j;have hF:=ah.refl (am A) mine w;rcases h with⟨rfl,rfl,⟨k,f,d⟩|⟨k,f,d,i⟩|⟨k,f,i⟩⟩|⟨rfl,n1,p,hn,k,⟨f,rfl|⟨rfl,n⟩,d⟩|⟨f,d,⟨rfl,i⟩|⟨rfl,n,n0,i,o⟩⟩⟩;all_goals
  refine bl G ?_;generalize hS:(λ(g:uah)(w:aS)=>g.status=.running/\_)=S;simp only[f127,vae,dA,kZ,dW,k0,oo,Nat.reduceBEq,vah,↓reduceIte]at j⊢;repeat w_go ah.trans
  refine vai (λb c=>?_);replace hF:=ah.trans hF c;subst hS;exact⟨Y,λe d=>j b e hF d ..⟩
