import Derived.Test.YtnkpmooengcinaaGreatPAD
set_option linter.all false
set_option maxRecDepth 100000
set_option maxHeartbeats 16000000
namespace Go.Proofs.YtnkpmooengcinaaGreat
open Go.Proofs.Tryz
namespace ej
open Conc bn ae
section
section
variable{N:Nat}{rows:uas}{bad:ubg}{b:cj}{xs:List At}{i:Nat}{l:uac}
def cT.aj_(h:cT N rows bad b xs)(hi:xs[i]?=some (.work .rel l)):1<=b.aX:=by have a:=h.aX;grind[nT,gl]
def cT.aka(h:cT N rows bad b xs)(hi:xs[i]?=some (.work .nl l)):b.aX=0/\b.ea=true:=by
 have:=nT gA xs i _ hi;simp[gA]at this;obtain⟨s,_,a⟩:=h.main;cases s with
 |r_=>
  rcases a with⟨m1,_,_,c⟩|⟨_,_,d,_⟩
  .grind
  .omega
 |spawn k q=>have:=a.2.2.1;omega
 |pq=>have:=a.2.2.1;omega
 |over=>have:=a.2.2.2.1;omega
def cT.akb(h:cT N rows bad b xs)(hi:xs[i]?=some (.work .lb l)):b.gz=0:=by
 have:=nT gG xs i _ hi;simp[gG]at this;obtain⟨s,_,a⟩:=h.main;cases s with
 |r_=>rcases a with⟨_,_,d,_⟩|⟨_,_,_,c⟩<;>omega
 |spawn k q=>have:=a.2.2.2;omega
 |pq=>have:=a.2.2.2;omega
 |over=>have:=a.2.2.2.2;omega
end
section
variable{c:db}{l:ae.Lo At}{γ:ae.aM cj}{p:uac}
def tj(h:g8 (ak (ar c)) l γ):∃(xs:List At)(i:Nat),xs[i]?=some l.aj/\cT c.N c.rows c.bad γ.aj xs:=by obtain⟨ls,i,hi,hg⟩:∃(ls:List (ae.Lo At))(i:Nat),ls[i]?=some l/\r4 (ar c) γ ls:=h;exact⟨ls.map (·.aj),i,AN,hg.oB⟩
def akc(h:g8 (ak (ar c)) l γ)(a:l.aj=.work .rel p):1<=γ.aj.aX:=by obtain⟨xs,i,hi,hg⟩:=tj h;rw[a]at hi;exact hg.aj_ hi
def Xc(h:g8 (ak (ar c)) l γ)(a:l.aj=.work .nl p):γ.aj.aX=0/\γ.aj.ea=true:=by obtain⟨xs,i,hi,hg⟩:=tj h;rw[a]at hi;exact hg.aka hi
def akd(h:g8 (ak (ar c)) l γ)(a:l.aj=.work .lb p):γ.aj.gz=0:=by obtain⟨xs,i,hi,hg⟩:=tj h;rw[a]at hi;exact hg.akb hi
end
end
end ej
namespace bM
open Conc RowKit Conc.Lib ConcR.Gen ConcM av bn ae
section
section
variable{A:e5}{Stop:Bool->ae.Lo A.ao->aV->Prop}{m:Bool}{mine:c5}
variable{aY:Frame}{aF:Act}{az:eQ}{aI:Nat}{aK:uag}{aG:uab}{csZ:fA}
def FH(G:A.Good){mx:bT}{g_:Nat}{a:A.ao}{γ:ae.aM A.aN}{l it old new:Int}{sv aw:Bool}{w:aH}(h:aw=false/\sv=false/\(bits .and .i32 old 4=0/\bits .and .i32 old 5=0/\bits .or .i32 old 1=new\/bits .and .i32 old 4=0/\bits .and .i32 old 5=1/\bits .or .i32 old 1=old/\IntKind.wrap .i32 (old+8)=new\/bits .and .i32 old 4=4/\(bits .and .i32 old 5 != 0)=true/\IntKind.wrap .i32 (old+8)=new)\/
  aw=true/\∃n1,bits .and .i32 n1 2=2/\bits .andNot .i32 n1 2=new/\bits .and .i32 old 4=0/\(bits .and .i32 old 5=0/\(sv=false\/sv=true/\bits .and .i32 old 1=0)/\bits .or .i32 old 1=n1\/bits .and .i32 old 5=1/\bits .or .i32 old 1=old/\(sv=false/\IntKind.wrap .i32 (old+8)=n1\/sv=true/\bits .and .i32 old 1=1/\∃n0,IntKind.wrap .i32 (old+8)=n0/\bits .or .i32 n0 4=n1)))(j:∀w' e,ai (ak A) mine w w'->(ak A).dH ⟨mx,false,1,g_,a⟩ γ e->IS A Stop m mine aY aF az aI aK aG csZ ⟨mx,false,1,g_,a⟩ e l sv aw it old new w'):Am A Stop m mine aY aF az aI aK aG csZ ⟨mx,false,1,g_,a⟩ γ l sv aw it old w:=by
 unfold Am jG;intros
 unfold IS at j;have hF:=ai.refl (ak A) mine w;rcases h with⟨rfl,rfl,⟨k,f,d⟩|⟨k,f,d,i⟩|⟨k,f,i⟩⟩|⟨rfl,n1,q,hn,k,⟨f,rfl|⟨rfl,o⟩,d⟩|⟨f,d,⟨rfl,i⟩|⟨rfl,o,n0,i,p⟩⟩⟩;all_goals
  refine a8 G ?_;generalize n:(λ(g:uai)(w:aH)=>g.status=.running/\_)=S;simp only[f118,vah,dA,kR,ed,lY,pI,Nat.reduceBEq,vai,↓reduceIte]at j⊢;repeat w_go ai.trans
  refine vaf (λb c=>?_);replace hF:=ai.trans hF c;subst n;exact⟨U,λe d=>j b e hF d ..⟩
