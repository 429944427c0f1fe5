import Derived.Test.YtncomcmfgmojkaaGreatPAE
set_option linter.all false
set_option maxRecDepth 100000
set_option maxHeartbeats 16000000
namespace Go.Proofs.YtncomcmfgmojkaaGreat
open Go.Proofs.Tryz
namespace bO
open Conc RowKit Conc.Lib ConcR.Gen ConcM av bn ah
section
section
variable{A:eR}{Stop:Bool->ah.Lo A.al->aV->Prop}{m:Bool}{mine:Nat->Prop}
variable{a2:Frame}{aF:Act}{aD:Array Oper}{aI:Nat}{aL:List Nat}{aH:List Item}{csZ:List Frame}
def Ga(G:A.Good){mx:bU}{gI:Nat}{a:A.al}{γ:ah.aN A.aJ}{n it old new:Int}{sv aw:Bool}{w:aO}(h:aw=false/\sv=false/\(bits .and .i32 old 4=0/\bits .and .i32 old 5=0/\bits .or .i32 old 1=new\/bits .and .i32 old 4=0/\bits .and .i32 old 5=1/\bits .or .i32 old 1=old/\IntKind.wrap .i32 (old+8)=new\/bits .and .i32 old 4=4/\(bits .and .i32 old 5 != 0)=true/\IntKind.wrap .i32 (old+8)=new)\/
  aw=true/\∃b,bits .and .i32 b 2=2/\bits .andNot .i32 b 2=new/\bits .and .i32 old 4=0/\(bits .and .i32 old 5=0/\(sv=false\/sv=true/\bits .and .i32 old 1=0)/\bits .or .i32 old 1=b\/bits .and .i32 old 5=1/\bits .or .i32 old 1=old/\(sv=false/\IntKind.wrap .i32 (old+8)=b\/sv=true/\bits .and .i32 old 1=1/\∃n0,IntKind.wrap .i32 (old+8)=n0/\bits .or .i32 n0 4=b)))(k:∀w' f,ai (ak A) mine w w'->(ak A).dY ⟨mx,false,1,gI,a⟩ γ f->Jb A Stop m mine a2 aF aD aI aL aH csZ ⟨mx,false,1,gI,a⟩ f n sv aw it old new w'):Aa A Stop m mine a2 aF aD aI aL aH csZ ⟨mx,false,1,gI,a⟩ γ n sv aw it old w:=by
 unfold Aa jf;intros
 unfold Jb at k;have hF:=ai.refl (ak A) mine w;rcases h with⟨rfl,rfl,⟨l,i,e⟩|⟨l,i,e,j⟩|⟨l,i,j⟩⟩|⟨rfl,b,o,hn,l,⟨i,rfl|⟨rfl,h1⟩,e⟩|⟨i,e,⟨rfl,j⟩|⟨rfl,h1,n0,j,h3⟩⟩⟩;all_goals
  refine bk G ?_;generalize hS:(λ(g:Goroutine)(w:aO)=>g.status=.running/\_)=S;simp only[f129,Option.getD_some,dp,kx,dR,ky,n2,Nat.reduceBEq,Bool.false_eq_true,↓reduceIte]at k⊢;repeat w_go ai.trans
  refine Goes.stop (λc d=>?_);replace hF:=ai.trans hF d;subst hS;exact⟨Y,λf e=>k c f hF e ..⟩
end
end
end bO
end Go.Proofs.YtncomcmfgmojkaaGreat
