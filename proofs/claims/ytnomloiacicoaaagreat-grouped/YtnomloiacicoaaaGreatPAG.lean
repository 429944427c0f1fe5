import Derived.Test.YtnomloiacicoaaaGreatPAD
set_option linter.all false
set_option maxRecDepth 100000
set_option maxHeartbeats 16000000
namespace Go.Proofs.YtnomloiacicoaaaGreat
open Tryz
namespace bQ
open Conc RowKit Conc.Lib ConcR.Gen ConcM av bj ah
section
section
variable{A:fq}{Stop:Bool->ah.Lo A.aq->a0->Prop}{m:Bool}{mine:dL}
variable{a2:Frame}{aI:Act}{aC:fF}{aL:Nat}{aO:uac}{aK:uab}{csZ:hH}
def Hv(G:A.Good){mx:b5}{ic:Nat}{a:A.aq}{γ:ah.aQ A.aH}{k it old new:Int}{sv aw:Bool}{w:aR}(h:aw=false/\sv=false/\(bits .and .i32 old 4=0/\bits .and .i32 old 5=0/\bits .or .i32 old 1=new\/bits .and .i32 old 4=0/\bits .and .i32 old 5=1/\bits .or .i32 old 1=old/\IntKind.wrap .i32 (old+8)=new\/bits .and .i32 old 4=4/\(bits .and .i32 old 5 != 0)=true/\IntKind.wrap .i32 (old+8)=new)\/
  aw=true/\∃n1,bits .and .i32 n1 2=2/\bits .andNot .i32 n1 2=new/\bits .and .i32 old 4=0/\(bits .and .i32 old 5=0/\(sv=false\/sv=true/\bits .and .i32 old 1=0)/\bits .or .i32 old 1=n1\/bits .and .i32 old 5=1/\bits .or .i32 old 1=old/\(sv=false/\IntKind.wrap .i32 (old+8)=n1\/sv=true/\bits .and .i32 old 1=1/\∃n0,IntKind.wrap .i32 (old+8)=n0/\bits .or .i32 n0 4=n1)))(j:∀w' e,ai (ao A) mine w w'->(ao A).ey ⟨mx,false,1,ic,a⟩ γ e->KB A Stop m mine a2 aI aC aL aO aK csZ ⟨mx,false,1,ic,a⟩ e k sv aw it old new w'):Bs A Stop m mine a2 aI aC aL aO aK csZ ⟨mx,false,1,ic,a⟩ γ k sv aw it old w:=by
 unfold Bs j7;intros
 unfold KB at j;have hF:=ai.refl (ao A) mine w;rcases h with⟨rfl,rfl,⟨h4,f,d⟩|⟨h4,f,d,i⟩|⟨h4,f,i⟩⟩|⟨rfl,n1,h2,hn,h4,⟨f,rfl|⟨rfl,h1⟩,d⟩|⟨f,d,⟨rfl,i⟩|⟨rfl,h1,n0,i,h3⟩⟩⟩;all_goals
  refine bf G ?_;generalize l:(λ(g:uaj)(w:aR)=>g.status=.running/\_)=S;simp only[f125,vaf,dV,lz,eu,lA,pd,Nat.reduceBEq,vah,↓reduceIte]at j⊢;repeat w_go ai.trans
  refine vaj (λb c=>?_);replace hF:=ai.trans hF c;subst l;exact⟨Y,λe d=>j b e hF d ..⟩
