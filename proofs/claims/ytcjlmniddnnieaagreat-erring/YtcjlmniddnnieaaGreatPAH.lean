import Derived.Test.YtcjlmniddnnieaaGreatPAE
set_option linter.all false
set_option maxRecDepth 100000
set_option maxHeartbeats 16000000
namespace Go.Proofs.YtcjlmniddnnieaaGreat
open Tryz
namespace bz
open Conc RowKit Conc.Lib ConcR.Gen ConcM au bn ai
section
section
variable{A:e9}{Stop:Bool->ai.Lo A.ao->aX->Prop}{m:Bool}{mine:dY}
variable{a2:Frame}{aD:Act}{aB:fC}{aJ:Nat}{aL:uad}{aG:uaa}{csZ:fG}
def G1(G:A.Good){mx:b3}{hJ:Nat}{a:A.ao}{γ:ai.aN A.aO}{n it old new:Int}{sv aw:Bool}{w:aH}(h:aw=false/\sv=false/\(bits .and .i32 old 4=0/\bits .and .i32 old 5=0/\bits .or .i32 old 1=new\/bits .and .i32 old 4=0/\bits .and .i32 old 5=1/\bits .or .i32 old 1=old/\IntKind.wrap .i32 (old+8)=new\/bits .and .i32 old 4=4/\(bits .and .i32 old 5 != 0)=true/\IntKind.wrap .i32 (old+8)=new)\/
  aw=true/\∃b,bits .and .i32 b 2=2/\bits .andNot .i32 b 2=new/\bits .and .i32 old 4=0/\(bits .and .i32 old 5=0/\(sv=false\/sv=true/\bits .and .i32 old 1=0)/\bits .or .i32 old 1=b\/bits .and .i32 old 5=1/\bits .or .i32 old 1=old/\(sv=false/\IntKind.wrap .i32 (old+8)=b\/sv=true/\bits .and .i32 old 1=1/\∃n0,IntKind.wrap .i32 (old+8)=n0/\bits .or .i32 n0 4=b)))(k:∀w' f,ak (am A) mine w w'->(am A).dM ⟨mx,false,1,hJ,a⟩ γ f->Ky A Stop m mine a2 aD aB aJ aL aG csZ ⟨mx,false,1,hJ,a⟩ f n sv aw it old new w'):Bp A Stop m mine a2 aD aB aJ aL aG csZ ⟨mx,false,1,hJ,a⟩ γ n sv aw it old w:=by
 unfold Bp jQ;intros
 unfold Ky at k;have hF:=ak.refl (am A) mine w;rcases h with⟨rfl,rfl,⟨l,i,e⟩|⟨l,i,e,j⟩|⟨l,i,j⟩⟩|⟨rfl,b,q,hn,l,⟨i,rfl|⟨rfl,o⟩,e⟩|⟨i,e,⟨rfl,j⟩|⟨rfl,o,n0,j,p⟩⟩⟩;all_goals
  refine bb G ?_;generalize hS:(λ(g:uaf)(w:aH)=>g.status=.running/\_)=S;simp only[f127,vae,dC,lr,dJ,kC,mE,Nat.reduceBEq,vaf,↓reduceIte]at k⊢;repeat w_go ak.trans
  refine vag (λc d=>?_);replace hF:=ak.trans hF d;subst hS;exact⟨Y,λf e=>k c f hF e ..⟩
